/- Layer 18: a term that gives one of one unit, made simple. Conditions: those written at each theorem. -/
import Derived.Test.YtepoihokbcoidaaTmK
namespace Go.Proofs.Ytepoihokbcoidaa
open Go.RowKit Go.PlainAid
set_option linter.unusedVariables false
set_option linter.unusedSimpArgs false
theorem row_form {B n : Nat} {e : TypeId} {z : Nat} {v : Value} {xs : List Value} {w : World} (h : w.ownsRow B e z v n xs) : ∃ a c, v = .slice a n c := by
  rcases h.2 with ⟨rfl, h0⟩ | ⟨g, cap, cur, rfl, _⟩
  · subst h0; exact ⟨none, 0, rfl⟩
  · exact ⟨_, _, rfl⟩
theorem row_stay {B n : Nat} {e : TypeId} {z : Nat} {v : Value} {xs : List Value} {w w' : World} (h : w.ownsRow B e z v n xs) (hg : ∀ g, v.ownBlock = some g → w'.heap[g]? = w.heap[g]?) : w'.ownsRow B e z v n xs := by
  refine ⟨h.1, ?_⟩
  rcases h.2 with hn | ⟨g, cap, cur, rfl, hb, hgg, rest⟩
  · exact .inl hn
  · exact .inr ⟨g, cap, cur, rfl, hb, (hg g rfl).trans hgg, rest⟩
theorem row_mono {B B' n : Nat} {e : TypeId} {z : Nat} {v : Value} {xs : List Value} {w : World} (h : w.ownsRow B' e z v n xs) (hB : B ≤ B') : w.ownsRow B e z v n xs := by
  refine ⟨h.1, ?_⟩
  rcases h.2 with hn | ⟨g, cap, cur, rfl, hb, rest⟩
  · exact .inl hn
  · exact .inr ⟨g, cap, cur, rfl, by omega, rest⟩
theorem row_one {B c : Nat} {T : TypeId} {va : Option Addr} {x0 x1 x2 x3 : Value} {w : World} (h : w.ownsRow B T 4 (.slice va 1 c) 1 [x0, x1, x2, x3]) : ∃ g, va = some ⟨g, 0, none⟩ ∧ g < w.heap.size ∧ B ≤ g ∧ w.cell? ⟨g, 0, none⟩ = some x0 ∧ w.cell? ⟨g, 1, none⟩ = some x1 ∧ w.cell? ⟨g, 2, none⟩ = some x2 ∧ w.cell? ⟨g, 3, none⟩ = some x3 := by
  rcases h.2 with ⟨hv, h0⟩ | ⟨b, cp, cur, hv, hb, hg, hc, _, hsz, htk⟩
  · omega
  · injection hv with e1 _ e3
    subst e1 e3
    have hcell : ∀ m y, m < 4 → [x0, x1, x2, x3][m]? = some y → w.cell? ⟨b, m, none⟩ = some y := fun m y hm hy => by
      rw [cell_blk hg, ← hy, ← htk, List.getElem?_take_of_lt (by omega)]
      simp
    exact ⟨b, rfl, lt_of_heap hg, by omega, hcell 0 _ (by omega) rfl, hcell 1 _ (by omega) rfl, hcell 2 _ (by omega) rfl, hcell 3 _ (by omega) rfl⟩
set_option maxRecDepth 100000 in
set_option maxHeartbeats 8000000 in
theorem simple_give (s : ByteArray) (b : Nat) (w : World) (hb : w.heap[b]? = some (.cells #[.int .i64 2, .string s, .slice none 0 0, .slice none 0 0] 33 (0, 0))) : Calls Try.prog 24 #[giveV b] w fun e w' => (∃ va vc, e = .returned (.agg #[.int .i64 3, .string ⟨#[]⟩, .slice none 0 0, .slice va 1 vc]) ∧ w'.ownsRow w.heap.size 33 4 (.slice va 1 vc) 1 [.int .i64 2, .string s, .slice none 0 0, .slice none 0 0]) ∧ Below w.heap.size w w' := by
  have GA := Lib.hid (box_zero (.int .i64 3) (.string ⟨#[]⟩) (.slice none 0 0) (.slice (some ⟨b, 0, none⟩) 1 1) w)
  have CI := Lib.hid (simple_one s)
  have hbl := lt_of_heap hb
  obtain ⟨z, hz⟩ : ∃ z, z = w.heap.size := ⟨_, rfl⟩
  obtain ⟨y, hy⟩ : ∃ y, y = w.heap.size + 1 := ⟨_, rfl⟩
  go_enter Try.func24, Try.ntmps24
  go_upto_region 2 with fail
  obtain ⟨W, hW⟩ : ∃ x, (w.alloc (.cells #[.int .i64 3, .string ⟨#[]⟩, .slice none 0 0, .slice (some ⟨b, 0, none⟩) 1 1] 33)).alloc (.cells #[.int .i64 0, .string ⟨#[]⟩, .slice none 0 0, .slice none 0 0] 33) = x := ⟨_, rfl⟩
  obtain ⟨b1, b2, g1⟩ := GA.out W hW
  have HG := Lib.hid g1
  rw [← hz] at b1
  rw [← hy] at b2
  rw [hW, ← hz, show z + 1 = y from by omega]
  have HB1 := Lib.hid b1
  have HB2 := Lib.hid b2
  have HZY := Lib.hid (show y ≠ z ∧ w.heap.size ≤ z ∧ w.heap.size ≤ y by omega)
  have HBB := Lib.hid ((g1.block b hbl).trans hb)
  have c3 : W.cell? ⟨z, 3, none⟩ = some (.slice (some ⟨b, 0, none⟩) 1 1) := cell_blk b1 3
  clear hW b1 b2 g1 GA hz hy hb hbl
  go_upto_region 3 with fail
  clear c3
  go_loopw [9, 3] (fun v l wr => (v = .int .i64 0 ∧ l = .slice none 0 0 ∧ W = wr) ∨ (v = .int .i64 1 ∧ ∃ va vc, l = .slice va 1 vc ∧ Hid (wr.ownsRow W.heap.size 33 4 (.slice va 1 vc) 1 [.int .i64 2, .string s, .slice none 0 0, .slice none 0 0] ∧ Below W.heap.size W wr))) (fun v _ _ => 1 - (intOf v).toNat)
  case atStart => exact .inl ⟨rfl, rfl, rfl⟩
  case round =>
    rcases hrel with ⟨rfl, rfl, rfl⟩ | ⟨rfl, va, vc, rfl, HE⟩
    · have y0 : W.cell? ⟨b, 0, none⟩ = some (.int .i64 2) := cell_blk HBB.out 0
      have y1 : W.cell? ⟨b, 1, none⟩ = some (.string s) := cell_blk HBB.out 1
      have y2 : W.cell? ⟨b, 2, none⟩ = some (.slice none 0 0) := cell_blk HBB.out 2
      have y3 : W.cell? ⟨b, 3, none⟩ = some (.slice none 0 0) := cell_blk HBB.out 3
      have r0 : (W.alloc (.cells #[.int .i64 0, .string ⟨#[]⟩, .slice none 0 0, .slice none 0 0] 33)).cell? ⟨W.heap.size, 0, none⟩ = some (.int .i64 0) := World.cell?_alloc_at _ _ _ _ rfl
      have r1 : (W.alloc (.cells #[.int .i64 0, .string ⟨#[]⟩, .slice none 0 0, .slice none 0 0] 33)).cell? ⟨W.heap.size, 1, none⟩ = some (.string ⟨#[]⟩) := World.cell?_alloc_at _ _ _ _ rfl
      have r2 : (W.alloc (.cells #[.int .i64 0, .string ⟨#[]⟩, .slice none 0 0, .slice none 0 0] 33)).cell? ⟨W.heap.size, 2, none⟩ = some (.slice none 0 0) := World.cell?_alloc_at _ _ _ _ rfl
      have r3 : (W.alloc (.cells #[.int .i64 0, .string ⟨#[]⟩, .slice none 0 0, .slice none 0 0] 33)).cell? ⟨W.heap.size, 3, none⟩ = some (.slice none 0 0) := World.cell?_alloc_at _ _ _ _ rfl
      have q0 : (W.alloc (.cells #[.int .i64 0, .string ⟨#[]⟩, .slice none 0 0, .slice none 0 0] 33)).frozen? ⟨W.heap.size, 0, none⟩ = false := World.frozen?_alloc_at _ _ _ _ rfl
      have q1 : (W.alloc (.cells #[.int .i64 0, .string ⟨#[]⟩, .slice none 0 0, .slice none 0 0] 33)).frozen? ⟨W.heap.size, 1, none⟩ = false := World.frozen?_alloc_at _ _ _ _ rfl
      have q2 : (W.alloc (.cells #[.int .i64 0, .string ⟨#[]⟩, .slice none 0 0, .slice none 0 0] 33)).frozen? ⟨W.heap.size, 2, none⟩ = false := World.frozen?_alloc_at _ _ _ _ rfl
      have q3 : (W.alloc (.cells #[.int .i64 0, .string ⟨#[]⟩, .slice none 0 0, .slice none 0 0] 33)).frozen? ⟨W.heap.size, 3, none⟩ = false := World.frozen?_alloc_at _ _ _ _ rfl
      go_upto_region 5 with fail
      clear r0 r1 r2 r3 q0 q1 q2 q3 y0 y1 y2 y3
      have GY : Hid (∀ X, W.alloc (.cells #[.int .i64 2, .string s, .slice none 0 0, .slice none 0 0] 33) = X → X.heap[W.heap.size]? = some (.cells #[.int .i64 2, .string s, .slice none 0 0, .slice none 0 0] 33 (0, 0)) ∧ Below W.heap.size W X) := Lib.hid (by
        rintro X rfl
        exact ⟨heap_alloc_new W _, (Below.refl W.heap.size W).alloc (Nat.le_refl _) _⟩)
      obtain ⟨W3, hW3⟩ : ∃ x, W.alloc (.cells #[.int .i64 2, .string s, .slice none 0 0, .slice none 0 0] 33) = x := ⟨_, rfl⟩
      obtain ⟨u, hu⟩ : ∃ x, x = W.heap.size := ⟨_, rfl⟩
      rw [hW3, ← hu]
      obtain ⟨e1, e3⟩ := GY.out W3 hW3
      rw [← hu] at e1
      have HE := Lib.hid e3
      have y0 : W3.cell? ⟨u, 0, none⟩ = some (.int .i64 2) := cell_blk e1 0
      have y1 : W3.cell? ⟨u, 1, none⟩ = some (.string s) := cell_blk e1 1
      have y2 : W3.cell? ⟨u, 2, none⟩ = some (.slice none 0 0) := cell_blk e1 2
      have y3 : W3.cell? ⟨u, 3, none⟩ = some (.slice none 0 0) := cell_blk e1 3
      clear e1 e3 hW3 hu GY
      go_wp2_with (first | (go_at_call 24; (with_reducible refine (CI.out _).mono ?_); rintro e w4 ⟨rfl, h1⟩; have HZ4 := Lib.hid (below_mono HE.out h1 (Nat.le_refl _)); clear h1) | (at_builtin; refine wpList_appT rfl _ _ rfl W.heap.size rfl w4.heap.size 2 s none none 0 0 0 0 rfl (heap_alloc_new w4 _) (by have := HZ4.out.size; simp; omega) ?_; intro v' w5 hown hgr; have HR5 := Lib.hid hown; have HG5 := Lib.hid hgr; clear hown hgr))
      obtain ⟨va, vc, hv⟩ := row_form HR5.out
      subst hv
      go_wp2_with fail
      go_roundw
      case rel => exact .inr ⟨rfl, va, vc, rfl, Lib.hid ⟨HR5.out, (HZ4.out.alloc (by have := HZ4.out.size; omega) _).grown HG5.out (by have := HZ4.out.size; simp; omega) (fun g hg => by cases hg)⟩⟩
      case measure => simp [intOf]
    · obtain ⟨g, rfl, hgl, hgB, k0, k1, k2, k3⟩ := row_one HE.out.1
      have hzl := lt_of_heap HB1.out
      have hyl := lt_of_heap HB2.out
      have e1 := (HE.out.2.block z hzl).trans HB1.out
      have e2 := (HE.out.2.block y hyl).trans HB2.out
      have p3 : wr.frozen? ⟨z, 3, none⟩ = false := free_blk e1 3
      have c3 : wr.cell? ⟨z, 3, none⟩ = some (.slice (some ⟨b, 0, none⟩) 1 1) := cell_blk e1 3
      have HE1 := Lib.hid e1
      have HE2 := Lib.hid e2
      have HGZ := Lib.hid (show g ≠ z ∧ g ≠ y by omega)
      clear hgl hgB hzl hyl e1 e2 k0 k1 k2 k3
      have HRM := Lib.hid (row_mono HE.out.1 HG.out.size)
      have HRB := Lib.hid (below_mono HG.out HE.out.2 (Nat.le_refl _))
      go_upto_region 8 with fail
      clear c3 p3
      refine wp_letter (fun X => X.heap[z]? = some (.cells #[.int .i64 3, .string ⟨#[]⟩, .slice none 0 0, .slice (some ⟨g, 0, none⟩) 1 vc] 33 (0, 0)) ∧ X.heap[y]? = some (.cells #[.int .i64 0, .string ⟨#[]⟩, .slice none 0 0, .slice none 0 0] 33 (0, 0)) ∧ Below w.heap.size w X ∧ X.ownsRow w.heap.size 33 4 (.slice (some ⟨g, 0, none⟩) 1 vc) 1 [.int .i64 2, .string s, .slice none 0 0, .slice none 0 0]) ⟨heap_set_at (i := 3) _ HE1.out, (Below.heap_setCell _ _ _ _ HZY.out.1).trans HE2.out, HRB.out.setCell (p := ⟨z, 3, none⟩) HZY.out.2.1 _, row_stay HRM.out (fun k hk => by cases hk; exact Below.heap_setCell _ _ _ _ HGZ.out.1)⟩ ?_
      rintro X ⟨b1, b2, g1, r1⟩
      obtain ⟨g', hg', _, _, k0, k1, k2, k3⟩ := row_one r1
      cases hg'
      have c0 : X.cell? ⟨z, 0, none⟩ = some (.int .i64 3) := cell_blk b1 0
      have c1 : X.cell? ⟨z, 1, none⟩ = some (.string ⟨#[]⟩) := cell_blk b1 1
      have c2 : X.cell? ⟨z, 2, none⟩ = some (.slice none 0 0) := cell_blk b1 2
      have c3 : X.cell? ⟨z, 3, none⟩ = some (.slice (some ⟨g, 0, none⟩) 1 vc) := cell_blk b1 3
      have d0 : X.cell? ⟨y, 0, none⟩ = some (.int .i64 0) := cell_blk b2 0
      have d1 : X.cell? ⟨y, 1, none⟩ = some (.string ⟨#[]⟩) := cell_blk b2 1
      have d2 : X.cell? ⟨y, 2, none⟩ = some (.slice none 0 0) := cell_blk b2 2
      have d3 : X.cell? ⟨y, 3, none⟩ = some (.slice none 0 0) := cell_blk b2 3
      have p0 : X.frozen? ⟨y, 0, none⟩ = false := free_blk b2 0
      have p1 : X.frozen? ⟨y, 1, none⟩ = false := free_blk b2 1
      have p2 : X.frozen? ⟨y, 2, none⟩ = false := free_blk b2 2
      have p3 : X.frozen? ⟨y, 3, none⟩ = false := free_blk b2 3
      have HX := Lib.hid g1
      have HR := Lib.hid r1
      have HXL := Lib.hid (lt_of_heap b2)
      clear b1 b2 g1 r1
      go_wp2_with fail
      exact bodyPost_ret (v := .agg #[.int .i64 3, .string ⟨#[]⟩, .slice none 0 0, .slice (some ⟨g, 0, none⟩) 1 vc]) (by simp [results, Try.results24, go_sem, d0, d1, d2, d3, p0, p1, p2, p3, HXL.out]) rfl ⟨⟨_, _, rfl, row_stay HR.out (fun k hk => by cases hk; exact (Below.heap_setCell _ _ _ _ HGZ.out.2).trans ((Below.heap_setCell _ _ _ _ HGZ.out.2).trans ((Below.heap_setCell _ _ _ _ HGZ.out.2).trans (Below.heap_setCell _ _ _ _ HGZ.out.2))))⟩, (((HX.out.setCell (p := ⟨y, 0, none⟩) HZY.out.2.2 _).setCell (p := ⟨y, 1, none⟩) HZY.out.2.2 _).setCell (p := ⟨y, 2, none⟩) HZY.out.2.2 _).setCell (p := ⟨y, 3, none⟩) HZY.out.2.2 _⟩
end Go.Proofs.Ytepoihokbcoidaa
