/- Layer 18: a term that gives another is right where that one is. Conditions: those written at each theorem. -/
import Derived.Test.YthhimllddgfddaaTmF
namespace Go.Proofs.Ythhimllddgfddaa
open Go.RowKit Go.PlainAid
set_option linter.unusedVariables false
set_option linter.unusedSimpArgs false
set_option maxRecDepth 100000 in
set_option maxHeartbeats 4000000 in
theorem built_give (i0 : Int) (t1 : ByteArray) (a3 : Option Addr) (n3 m3 : Nat) (b : Nat) (H : World → Prop) (hH : ∀ W W', H W → Below W.heap.size W W' → H W') (hb : ∀ W, H W → W.heap[b]? = some (.cells #[.int .i64 i0, .string t1, .slice none 0 0, .slice a3 n3 m3] 32 (0, 0)))
    (IH : ∀ W, H W → Calls Try.prog 27 #[.agg #[.int .i64 i0, .string t1, .slice none 0 0, .slice a3 n3 m3]] W fun e w' => e = .returned (.bool true) ∧ Below W.heap.size W w')
    (w : World) (hw : H w) : Calls Try.prog 27 #[giveV b] w fun e w' => e = .returned (.bool true) ∧ Below w.heap.size w w' := by
  obtain ⟨z, hz⟩ : ∃ z, z = w.heap.size := ⟨_, rfl⟩
  have GA : Hid (∀ W, w.alloc (.cells #[.int .i64 3, .string ⟨#[]⟩, .slice none 0 0, .slice (some ⟨b, 0, none⟩) 1 1] 32) = W → W.heap[z]? = some (.cells #[.int .i64 3, .string ⟨#[]⟩, .slice none 0 0, .slice (some ⟨b, 0, none⟩) 1 1] 32 (0, 0)) ∧ H W ∧ Below w.heap.size w W) := Lib.hid (by
    rintro W rfl
    have k := (Below.refl w.heap.size w).alloc (Nat.le_refl _) (.cells #[.int .i64 3, .string ⟨#[]⟩, .slice none 0 0, .slice (some ⟨b, 0, none⟩) 1 1] 32)
    exact ⟨by rw [hz]; exact heap_alloc_new w _, hH _ _ hw k, k⟩)
  have CI := Lib.hid IH
  have HH := Lib.hid hH
  have HBB := Lib.hid hb
  clear IH hH hb hw
  go_enter Try.func27, Try.ntmps27
  go_upto_region 1 with fail
  obtain ⟨W, hW⟩ : ∃ x, w.alloc (.cells #[.int .i64 3, .string ⟨#[]⟩, .slice none 0 0, .slice (some ⟨b, 0, none⟩) 1 1] 32) = x := ⟨_, rfl⟩
  rw [hW, ← hz]
  obtain ⟨b1, g1, g2⟩ := GA.out W hW
  have HG := Lib.hid g2
  have HW := Lib.hid g1
  have HB := Lib.hid b1
  have c0 : W.cell? ⟨z, 0, none⟩ = some (.int .i64 3) := cell_blk b1 0
  have c1 : W.cell? ⟨z, 1, none⟩ = some (.string ⟨#[]⟩) := cell_blk b1 1
  have c2 : W.cell? ⟨z, 2, none⟩ = some (.slice none 0 0) := cell_blk b1 2
  have c3 : W.cell? ⟨z, 3, none⟩ = some (.slice (some ⟨b, 0, none⟩) 1 1) := cell_blk b1 3
  clear hW b1 g1 g2 GA hz
  go_upto_region 2 with fail
  go_loopw [12] (fun v wr => v = .int .i64 0 ∧ W = wr) (fun v _ => 0)
  case atStart => exact ⟨rfl, rfl⟩
  case round =>
    obtain ⟨rfl, rfl⟩ := hrel
    go_upto_region 8 with fail
    go_loopw [23] (fun v wr => (v = .int .i64 0 ∧ W = wr) ∨ (v = .int .i64 1 ∧ Hid (Below W.heap.size W wr))) (fun v _ => 1 - (intOf v).toNat)
    case atStart => exact .inl ⟨rfl, rfl⟩
    case round =>
      rcases hrel with ⟨rfl, rfl⟩ | ⟨rfl, HE⟩
      · have y0 : W.cell? ⟨b, 0, none⟩ = some (.int .i64 i0) := cell_blk (HBB.out _ HW.out) 0
        have y1 : W.cell? ⟨b, 1, none⟩ = some (.string t1) := cell_blk (HBB.out _ HW.out) 1
        have y2 : W.cell? ⟨b, 2, none⟩ = some (.slice none 0 0) := cell_blk (HBB.out _ HW.out) 2
        have y3 : W.cell? ⟨b, 3, none⟩ = some (.slice a3 n3 m3) := cell_blk (HBB.out _ HW.out) 3
        have r0 : (W.alloc (.cells #[.int .i64 0, .string ⟨#[]⟩, .slice none 0 0, .slice none 0 0] 32)).cell? ⟨W.heap.size, 0, none⟩ = some (.int .i64 0) := World.cell?_alloc_at _ _ _ _ rfl
        have r1 : (W.alloc (.cells #[.int .i64 0, .string ⟨#[]⟩, .slice none 0 0, .slice none 0 0] 32)).cell? ⟨W.heap.size, 1, none⟩ = some (.string ⟨#[]⟩) := World.cell?_alloc_at _ _ _ _ rfl
        have r2 : (W.alloc (.cells #[.int .i64 0, .string ⟨#[]⟩, .slice none 0 0, .slice none 0 0] 32)).cell? ⟨W.heap.size, 2, none⟩ = some (.slice none 0 0) := World.cell?_alloc_at _ _ _ _ rfl
        have r3 : (W.alloc (.cells #[.int .i64 0, .string ⟨#[]⟩, .slice none 0 0, .slice none 0 0] 32)).cell? ⟨W.heap.size, 3, none⟩ = some (.slice none 0 0) := World.cell?_alloc_at _ _ _ _ rfl
        have p0 : (W.alloc (.cells #[.int .i64 0, .string ⟨#[]⟩, .slice none 0 0, .slice none 0 0] 32)).frozen? ⟨W.heap.size, 0, none⟩ = false := World.frozen?_alloc_at _ _ _ _ rfl
        have p1 : (W.alloc (.cells #[.int .i64 0, .string ⟨#[]⟩, .slice none 0 0, .slice none 0 0] 32)).frozen? ⟨W.heap.size, 1, none⟩ = false := World.frozen?_alloc_at _ _ _ _ rfl
        have p2 : (W.alloc (.cells #[.int .i64 0, .string ⟨#[]⟩, .slice none 0 0, .slice none 0 0] 32)).frozen? ⟨W.heap.size, 2, none⟩ = false := World.frozen?_alloc_at _ _ _ _ rfl
        have p3 : (W.alloc (.cells #[.int .i64 0, .string ⟨#[]⟩, .slice none 0 0, .slice none 0 0] 32)).frozen? ⟨W.heap.size, 3, none⟩ = false := World.frozen?_alloc_at _ _ _ _ rfl
        go_upto_region 10 with fail
        clear r0 r1 r2 r3 p0 p1 p2 p3 y0 y1 y2 y3
        have GY : Hid (∀ X, W.alloc (.cells #[.int .i64 i0, .string t1, .slice none 0 0, .slice a3 n3 m3] 32) = X → X.heap[W.heap.size]? = some (.cells #[.int .i64 i0, .string t1, .slice none 0 0, .slice a3 n3 m3] 32 (0, 0)) ∧ H X ∧ Below W.heap.size W X) := Lib.hid (by
          rintro X rfl
          have k := (Below.refl W.heap.size W).alloc (Nat.le_refl _) (.cells #[.int .i64 i0, .string t1, .slice none 0 0, .slice a3 n3 m3] 32)
          exact ⟨heap_alloc_new W _, HH.out _ _ HW.out k, k⟩)
        obtain ⟨W3, hW3⟩ : ∃ x, W.alloc (.cells #[.int .i64 i0, .string t1, .slice none 0 0, .slice a3 n3 m3] 32) = x := ⟨_, rfl⟩
        obtain ⟨y, hy⟩ : ∃ x, x = W.heap.size := ⟨_, rfl⟩
        rw [hW3, ← hy]
        obtain ⟨e1, e2, e3⟩ := GY.out W3 hW3
        rw [← hy] at e1
        have HE := Lib.hid (And.intro e2 e3)
        have y0 : W3.cell? ⟨y, 0, none⟩ = some (.int .i64 i0) := cell_blk e1 0
        have y1 : W3.cell? ⟨y, 1, none⟩ = some (.string t1) := cell_blk e1 1
        have y2 : W3.cell? ⟨y, 2, none⟩ = some (.slice none 0 0) := cell_blk e1 2
        have y3 : W3.cell? ⟨y, 3, none⟩ = some (.slice a3 n3 m3) := cell_blk e1 3
        clear e1 e2 e3 hW3 hy GY c0 c1 c2 c3
        go_wp2_with (go_at_call 27; (with_reducible refine (CI.out _ HE.out.1).mono ?_); rintro e w4 ⟨rfl, h1⟩; have HZ4 := Lib.hid (below_mono HE.out.2 h1 (Nat.le_refl _)); clear h1)
        go_roundw
        case rel => exact .inr ⟨rfl, HZ4⟩
        case measure => simp [intOf]
      · have hzl := lt_of_heap HB.out
        have hzc := (HE.out.block z hzl).trans HB.out
        have d0 : wr.cell? ⟨z, 0, none⟩ = some (.int .i64 3) := cell_blk hzc 0
        have d1 : wr.cell? ⟨z, 1, none⟩ = some (.string ⟨#[]⟩) := cell_blk hzc 1
        have d2 : wr.cell? ⟨z, 2, none⟩ = some (.slice none 0 0) := cell_blk hzc 2
        have d3 : wr.cell? ⟨z, 3, none⟩ = some (.slice (some ⟨b, 0, none⟩) 1 1) := cell_blk hzc 3
        have HF := Lib.hid (below_mono HG.out HE.out (Nat.le_refl _))
        clear hzl hzc c0 c1 c2 c3
        go_wp2_with fail
        go_ret
        exact ⟨rfl, HF.out⟩
end Go.Proofs.Ythhimllddgfddaa
