/- Layer 15: the document's example. Conditions: those written at each theorem. -/
import Derived.Test.YthodlkacfcnhnaaLvN
namespace Go.Proofs.Ythodlkacfcnhnaa
open Go.RowKit Go.Sort
set_option linter.unusedVariables false
set_option linter.unusedSimpArgs false
def A4 : List Fl := [⟨4, 0, ⟨#[97]⟩, ⟨#[98]⟩, 1, 1⟩, ⟨3, 0, ⟨#[97]⟩, ⟨#[98]⟩, 1, 1⟩, ⟨2, 0, ⟨#[97]⟩, ⟨#[98]⟩, 1, 1⟩, ⟨1, 0, ⟨#[97]⟩, ⟨#[98]⟩, 1, 1⟩]
theorem A4_pick : ((0, [4, 3, 2, 1], [], false, true) : Int × List Int × List Int × Bool × Bool) = takeT A4 (pickM A4 (fitI 4 1 50) (fitI 1 1 1048576) (fitI 2 2 20)) := by decide +kernel
theorem A4_get {j : Nat} (h : j < 4) : A4.take (j + 1) = A4.take j ++ [⟨((4 - j : Nat) : Int), 0, ⟨#[97]⟩, ⟨#[98]⟩, 1, 1⟩] := by
  have : j = 0 ∨ j = 1 ∨ j = 2 ∨ j = 3 := by omega
  rcases this with rfl | rfl | rfl | rfl <;> rfl
theorem A4_srt : Srt A4 := by
  intro i j f g hij hf hg
  have hj : j < 4 := (List.getElem?_eq_some_iff.1 hg).1
  have h1 : ∀ (k : Nat) (x : Fl), A4[k]? = some x → x.lvl = 0 ∧ x.num = 4 - (k : Int) := by
    intro k x hx
    have hk : k < 4 := (List.getElem?_eq_some_iff.1 hx).1
    have : k = 0 ∨ k = 1 ∨ k = 2 ∨ k = 3 := by omega
    rcases this with rfl | rfl | rfl | rfl <;> (simp [A4] at hx; subst hx; simp)
  have a := h1 i f hf
  have b := h1 j g hg
  exact .inr ⟨by omega, fun _ => by omega, fun h => absurd b.1 h⟩
theorem A4_sz : ∀ f ∈ A4, 0 ≤ f.sz ∧ f.sz ≤ 1048576 := by
  intro f hf
  simp [A4] at hf
  rcases hf with rfl | rfl | rfl | rfl <;> simp
set_option maxRecDepth 100000 in
set_option maxHeartbeats 8000000 in
theorem awake_any (w : World) : Calls Try.prog 11 #[] w fun e w' => e = .returned (.bool true) ∧ Below w.heap.size w w' := by
  have HG := Lib.hid ((Below.refl w.heap.size w).alloc (Nat.le_refl _) (.cells #[.int .i64 0, .int .i64 9, .int .i64 0, .slice none 0 0] 34))
  have HX := Lib.hid (heap_alloc_new w (.cells #[.int .i64 0, .int .i64 9, .int .i64 0, .slice none 0 0] 34))
  obtain ⟨z, hz⟩ : ∃ z, z = w.heap.size := ⟨_, rfl⟩
  have HZ := Lib.hid hz
  go_enter Try.func11, Try.ntmps11
  go_upto_region 3 with fail
  rw [← hz]
  refine wp_letter (fun W => W.heap[z]? = some (.cells #[.int .i64 0, .int .i64 9, .int .i64 0, .slice none 0 0] 34 (0, 0)) ∧ Below w.heap.size w W ∧ z < W.heap.size) ⟨by rw [hz]; exact HX.out, HG.out, by rw [hz]; exact lt_of_heap HX.out⟩ ?_
  clear HG HX hz
  rintro w1 ⟨hx1, hg1, hl1⟩
  have HX1 := Lib.hid hx1
  have HG1 := Lib.hid hg1
  have HL1 := Lib.hid hl1
  clear hx1 hg1 hl1
  go_loopw [2] (fun i wr => ∃ (j m : Nat) (v : Value), i = .int .i64 m ∧ Hid (m = 4 - j ∧ j ≤ 4) ∧ Hid (wr.heap[z]? = some (.cells #[.int .i64 0, .int .i64 9, .int .i64 0, v] 34 (0, 0))) ∧ Hid (wr.ownsRow w1.heap.size 60 6 v j (fls (A4.take j))) ∧ Hid (Below w.heap.size w wr) ∧ Hid (w1.heap.size ≤ wr.heap.size)) (fun i _ => (intOf i).toNat)
  case atStart => exact ⟨0, 4, _, rfl, Lib.hid ⟨rfl, by omega⟩, HX1, Lib.hid (World.ownsRow_nil w1 w1.heap.size 60 6), HG1, Lib.hid (Nat.le_refl _)⟩
  case round =>
    obtain ⟨j, m, v, rfl, HM, HX, HR, HB, HS⟩ := hrel
    obtain ⟨va, vc, rfl⟩ := row_form HR.out
    obtain ⟨v0, v1, v2, v3⟩ := four_cells HX.out
    have HLZ := Lib.hid (lt_of_heap HX.out)
    by_cases hlt : 0 < m
    · have hj4 : j < 4 := by have := HM.out; omega
      have HM2 := Lib.hid (show m - 1 = 4 - (j + 1) ∧ j + 1 ≤ 4 by have := HM.out; omega)
      have HT : Hid (A4.take (j + 1) = A4.take j ++ [⟨(m : Int), 0, ⟨#[97]⟩, ⟨#[98]⟩, 1, 1⟩]) := Lib.hid (by rw [A4_get hj4, ← HM.out.1])
      have hm0 : (0 : Int) < (m : Int) := by omega
      have hw1 : IntKind.i64.wrap ((m : Int) - 1) = ((m - 1 : Nat) : Int) := (IntWalk.i64_in _ (by have := HM.out; omega)).trans (by omega)
      have H6 := Lib.hid (six_cells (heap_alloc_new wr (.cells #[.int .i64 m, .int .i64 0, .string ⟨#[97]⟩, .string ⟨#[98]⟩, .int .i64 1, .int .i64 1] 60)))
      go_upto_region 4 with (at_builtin; refine wpList_appFl rfl _ _ rfl w1.heap.size _ j (A4.take j) ⟨(m : Int), 0, ⟨#[97]⟩, ⟨#[98]⟩, 1, 1⟩ rfl (HR.out.alloc _) wr.heap.size rfl H6.out (by omega) (by have := HS.out; simp; omega) ?_; intro v' w3 hown3 hgr3; obtain ⟨va', vc', rfl⟩ := row_form hown3; have HOWN := Lib.hid hown3; have HBB : Hid (Below w1.heap.size wr w3) := Lib.hid (((Below.refl w1.heap.size wr).alloc HS.out (.cells #[.int .i64 m, .int .i64 0, .string ⟨#[97]⟩, .string ⟨#[98]⟩, .int .i64 1, .int .i64 1] 60)).grown hgr3 (by have := HS.out; simp; omega) (fun j hj => (HR.out.lt j hj).1)); have HX3 := Lib.hid ((HBB.out.block z HL1.out).trans HX.out); have HB3 := Lib.hid (HB.out.trans (HBB.out.mono HG1.out.size)); clear hown3 hgr3 v0 v1 v2 v3; obtain ⟨v0, v1, v2, v3⟩ := four_cells HX3.out; have p3 : w3.frozen? ⟨z, 3, none⟩ = false := free_blk HX3.out 3)
      have HZL : Hid (z < w1.heap.size) := HL1
      go_wp2_with fail
      go_roundw
      case rel => exact ⟨j + 1, m - 1, .slice va' (j + 1) vc', rfl, HM2, Lib.hid (by simp [World.setCell, Array.getElem?_modify, HX3.out]), Lib.hid (by rw [HT.out]; exact ownsRow_setCell_below HOWN.out (a := ⟨z, 3, none⟩) HL1.out _), Lib.hid (HB3.out.setCell (p := ⟨z, 3, none⟩) (by rw [HZ.out]; exact Nat.le_refl _) _), Lib.hid (by have := HBB.out.size; have := HS.out; simp; omega)⟩
      case measure => simp [intOf]; omega
    · obtain rfl : m = 0 := by omega
      obtain rfl : j = 4 := by have := HM.out; omega
      have hrow := HR.out
      have HQ : Hid (4 ≤ vc ∧ FlAt wr.heap.size va A4 wr) := Lib.hid ⟨(got_row (w0 := w1) hrow rfl (Nat.le_refl _)).1, FlAt.row hrow rfl⟩
      have CP : Hid (Calls Try.prog 22 #[verV 0 9 0 va 4 vc, cfgV 4 1 2 64] wr fun e w' => TaskIs wr 0 [4, 3, 2, 1] [] false true e w' ∧ Below wr.heap.size wr w') := Lib.hid (pick_any HQ.out.2 (Nat.le_refl _) HQ.out.1 (by decide) A4_srt A4_sz 4 1 2 64 _ A4_pick)
      clear hrow HR HM
      go_upto_region 7 with (go_at_call 22; (with_reducible refine CP.out.mono ?_); rintro e w4 ⟨⟨fa, fc, ia, ic, rfl, hfc, hic, hfv, hiv, hfn, hin⟩, hb⟩; have HB4 := Lib.hid (below_mono HB.out hb (Nat.le_refl _)); clear hb hfc hic hfv hiv hfn hin v0 v1 v2 v3 CP)
      have HB5 := Lib.hid (HB4.out.alloc HB4.out.size (.cells #[.int .i64 0, .slice fa 4 fc, .slice ia 0 ic, .bool false] 47))
      have H5 := Lib.hid (four_cells (heap_alloc_new w4 (.cells #[.int .i64 0, .slice fa 4 fc, .slice ia 0 ic, .bool false] 47)))
      refine wp_letter (fun W => Below w.heap.size w W ∧ W.cell? ⟨w4.heap.size, 0, none⟩ = some (.int .i64 0) ∧ W.cell? ⟨w4.heap.size, 1, none⟩ = some (.slice fa 4 fc) ∧ W.cell? ⟨w4.heap.size, 2, none⟩ = some (.slice ia 0 ic) ∧ W.cell? ⟨w4.heap.size, 3, none⟩ = some (.bool false)) ⟨HB5.out, H5.out⟩ ?_
      rintro w5 ⟨hb5, e0, e1, e2, e3⟩
      have HB6 := Lib.hid hb5
      clear hb5 HB5 H5
      go_wp2_with fail
      go_ret
      exact ⟨rfl, HB6.out⟩
end Go.Proofs.Ythodlkacfcnhnaa
