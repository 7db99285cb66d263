/- Layer 18: a term that gives another, measured. Conditions: those written at each theorem. -/
import Derived.Test.YthhimllddgfddaaTmE
namespace Go.Proofs.Ythhimllddgfddaa
open Go.RowKit Go.PlainAid
set_option linter.unusedVariables false
set_option linter.unusedSimpArgs false
/-- A term that gives the one in block b. -/
abbrev giveV (b : Nat) : Value := .agg #[.int .i64 3, .string ⟨#[]⟩, .slice none 0 0, .slice (some ⟨b, 0, none⟩) 1 1]
/-- A new variable that is stored at once. -/
theorem new_four (w : World) (y : Nat) (hy : y = w.heap.size) (x0 x1 x2 x3 z0 z1 z2 z3 : Value) (T : TypeId) (W : World) (hW : W = ((((w.alloc (.cells #[z0, z1, z2, z3] T)).setCell ⟨y, 0, none⟩ x0).setCell ⟨y, 1, none⟩ x1).setCell ⟨y, 2, none⟩ x2).setCell ⟨y, 3, none⟩ x3) : W.heap[y]? = some (.cells #[x0, x1, x2, x3] T (0, 0)) ∧ Below w.heap.size w W := by
  subst hW hy
  exact ⟨heap_set_at (i := 3) _ (heap_set_at (i := 2) _ (heap_set_at (i := 1) _ (heap_set_at (i := 0) _ (heap_alloc_new w _)))), (((((Below.refl w.heap.size w).alloc (Nat.le_refl _) _).setCell (p := ⟨w.heap.size, 0, none⟩) (Nat.le_refl _) _).setCell (p := ⟨w.heap.size, 1, none⟩) (Nat.le_refl _) _).setCell (p := ⟨w.heap.size, 2, none⟩) (Nat.le_refl _) _).setCell (p := ⟨w.heap.size, 3, none⟩) (Nat.le_refl _) _⟩
theorem only_below {q : Nat} {w w1 w2 : World} (h : w.grownBy w1 (some q)) (k : Below w1.heap.size w1 w2) : w.grownBy w2 (some q) :=
  only_trans h ⟨k.os, k.tape, k.output, k.size, fun i hi _ => k.block i hi⟩
set_option maxRecDepth 100000 in
set_option maxHeartbeats 4000000 in
theorem mterm_give (lim : Nat) (hlim : lim ≤ 200) (i0 : Int) (t1 : ByteArray) (a3 : Option Addr) (n3 m3 : Nat) (b q k : Nat) (hk : k ≤ 10) (H : World → Prop) (hH : ∀ W W', H W → W.grownBy W' (some q) → H W') (hb : ∀ W, H W → W.heap[b]? = some (.cells #[.int .i64 i0, .string t1, .slice none 0 0, .slice a3 n3 m3] 32 (0, 0)))
    (IH : ∀ (n d dp : Nat) W, n < lim → d < lim → dp < lim → MAt q n d W → H W → Calls Try.prog 19 #[.pointer (some ⟨q, 0, none⟩), .agg #[.int .i64 i0, .string t1, .slice none 0 0, .slice a3 n3 m3], .int .i64 dp] W fun e w' => e = .returned (.bool true) ∧ MAt q (n + k) (max d (dp + k - 1)) w' ∧ W.grownBy w' (some q))
    (n d dp : Nat) (w : World) (hn : n + 1 < lim) (hd : d < lim) (hp : dp + 1 < lim) (h : MAt q n d w) (hw : H w) : Calls Try.prog 19 #[.pointer (some ⟨q, 0, none⟩), giveV b, .int .i64 dp] w fun e w' => e = .returned (.bool true) ∧ MAt q (n + 1 + k) (max (max d dp) (dp + 1 + k - 1)) w' ∧ w.grownBy w' (some q) := by
  have hq := lt_of_heap h
  obtain ⟨z, hz⟩ : ∃ z, z = w.heap.size := ⟨_, rfl⟩
  have hzq : z ≠ q := by omega
  have C1 := Lib.hid (fun W hW hb => enter_box (q := q) (n := n) (d := d) (dp := dp) (z := z) (cs := #[.int .i64 3, .string ⟨#[]⟩, .slice none 0 0, .slice (some ⟨b, 0, none⟩) 1 1]) (T := 32) (by omega) (by omega) (by omega) W hW hb hzq)
  have GA : Hid (∀ W, w.alloc (.cells #[.int .i64 3, .string ⟨#[]⟩, .slice none 0 0, .slice (some ⟨b, 0, none⟩) 1 1] 32) = W → MAt q n d W ∧ W.heap[z]? = some (.cells #[.int .i64 3, .string ⟨#[]⟩, .slice none 0 0, .slice (some ⟨b, 0, none⟩) 1 1] 32 (0, 0)) ∧ w.grownBy W (some q)) := Lib.hid (by
    rintro W rfl
    refine ⟨?_, ?_, alloc_only _ _ _⟩
    · exact (((Below.refl w.heap.size w).alloc (Nat.le_refl _) _).block q hq).trans h
    · rw [hz]; exact heap_alloc_new w _)
  have CI := Lib.hid (IH (n + 1) (max d dp) (dp + 1))
  have HH := Lib.hid hH
  have HBB := Lib.hid hb
  have HW := Lib.hid hw
  have hs : IntKind.i64.wrap ((dp : Int) + 1) = ((dp + 1 : Nat) : Int) := (IntWalk.i64_in _ (by omega)).trans (by omega)
  obtain ⟨dp1, hdp1⟩ : ∃ x, x = dp + 1 := ⟨_, rfl⟩
  rw [← hdp1] at hs CI ⊢
  have HS := Lib.hid (show n + 1 < lim ∧ max d dp < lim ∧ dp1 < lim by omega)
  clear h hq hn hd hp hzq IH hH hb hw hk hdp1
  go_enter Try.func19, Try.ntmps19
  go_upto_region 1 with fail
  obtain ⟨W, hW⟩ : ∃ x, w.alloc (.cells #[.int .i64 3, .string ⟨#[]⟩, .slice none 0 0, .slice (some ⟨b, 0, none⟩) 1 1] 32) = x := ⟨_, rfl⟩
  rw [hW, ← hz]
  obtain ⟨m1, b1, g1⟩ := GA.out W hW
  have HG := Lib.hid g1
  have HM := Lib.hid (And.intro m1 b1)
  clear hW m1 b1 g1 GA hz
  go_upto_region 3 with (go_at_call 33; (with_reducible refine (C1.out _ HM.out.1 HM.out.2).mono ?_); rintro e w2 ⟨rfl, h1, h2, h3⟩; have HM2 := Lib.hid h1; have HG2 := Lib.hid h2; have HB2 := Lib.hid h3; clear h1 h2 h3)
  have c2 : w2.cell? ⟨z, 2, none⟩ = some (.slice none 0 0) := cell_blk HB2.out 2
  have c3 : w2.cell? ⟨z, 3, none⟩ = some (.slice (some ⟨b, 0, none⟩) 1 1) := cell_blk HB2.out 3
  have HGW := Lib.hid (only_trans HG.out HG2.out)
  have HHW := Lib.hid (HH.out _ _ HW.out HGW.out)
  go_upto_region 4 with fail
  go_loopw [18] (fun v wr => v = .int .i64 0 ∧ w2 = wr) (fun v _ => 0)
  case atStart => exact ⟨rfl, rfl⟩
  case round =>
    obtain ⟨rfl, rfl⟩ := hrel
    go_upto_region 10 with fail
    go_loopw [32] (fun v wr => (v = .int .i64 0 ∧ w2 = wr) ∨ (v = .int .i64 1 ∧ Hid (MAt q (n + 1 + k) (max (max d dp) (dp1 + k - 1)) wr ∧ w.grownBy wr (some q)))) (fun v _ => 1 - (intOf v).toNat)
    case atStart => exact .inl ⟨rfl, rfl⟩
    case round =>
      rcases hrel with ⟨rfl, rfl⟩ | ⟨rfl, HE⟩
      · have y0 : w2.cell? ⟨b, 0, none⟩ = some (.int .i64 i0) := cell_blk (HBB.out _ HHW.out) 0
        have y1 : w2.cell? ⟨b, 1, none⟩ = some (.string t1) := cell_blk (HBB.out _ HHW.out) 1
        have y2 : w2.cell? ⟨b, 2, none⟩ = some (.slice none 0 0) := cell_blk (HBB.out _ HHW.out) 2
        have y3 : w2.cell? ⟨b, 3, none⟩ = some (.slice a3 n3 m3) := cell_blk (HBB.out _ HHW.out) 3
        have r0 : (w2.alloc (.cells #[.int .i64 0, .string ⟨#[]⟩, .slice none 0 0, .slice none 0 0] 32)).cell? ⟨w2.heap.size, 0, none⟩ = some (.int .i64 0) := World.cell?_alloc_at _ _ _ _ rfl
        have r1 : (w2.alloc (.cells #[.int .i64 0, .string ⟨#[]⟩, .slice none 0 0, .slice none 0 0] 32)).cell? ⟨w2.heap.size, 1, none⟩ = some (.string ⟨#[]⟩) := World.cell?_alloc_at _ _ _ _ rfl
        have r2 : (w2.alloc (.cells #[.int .i64 0, .string ⟨#[]⟩, .slice none 0 0, .slice none 0 0] 32)).cell? ⟨w2.heap.size, 2, none⟩ = some (.slice none 0 0) := World.cell?_alloc_at _ _ _ _ rfl
        have r3 : (w2.alloc (.cells #[.int .i64 0, .string ⟨#[]⟩, .slice none 0 0, .slice none 0 0] 32)).cell? ⟨w2.heap.size, 3, none⟩ = some (.slice none 0 0) := World.cell?_alloc_at _ _ _ _ rfl
        have p0 : (w2.alloc (.cells #[.int .i64 0, .string ⟨#[]⟩, .slice none 0 0, .slice none 0 0] 32)).frozen? ⟨w2.heap.size, 0, none⟩ = false := World.frozen?_alloc_at _ _ _ _ rfl
        have p1 : (w2.alloc (.cells #[.int .i64 0, .string ⟨#[]⟩, .slice none 0 0, .slice none 0 0] 32)).frozen? ⟨w2.heap.size, 1, none⟩ = false := World.frozen?_alloc_at _ _ _ _ rfl
        have p2 : (w2.alloc (.cells #[.int .i64 0, .string ⟨#[]⟩, .slice none 0 0, .slice none 0 0] 32)).frozen? ⟨w2.heap.size, 2, none⟩ = false := World.frozen?_alloc_at _ _ _ _ rfl
        have p3 : (w2.alloc (.cells #[.int .i64 0, .string ⟨#[]⟩, .slice none 0 0, .slice none 0 0] 32)).frozen? ⟨w2.heap.size, 3, none⟩ = false := World.frozen?_alloc_at _ _ _ _ rfl
        go_upto_region 12 with fail
        clear r0 r1 r2 r3 p0 p1 p2 p3 y0 y1 y2 y3 c2 c3
        have hq2 := lt_of_heap HM2.out
        have GY : Hid (∀ W, w2.alloc (.cells #[.int .i64 i0, .string t1, .slice none 0 0, .slice a3 n3 m3] 32) = W → W.heap[w2.heap.size]? = some (.cells #[.int .i64 i0, .string t1, .slice none 0 0, .slice a3 n3 m3] 32 (0, 0)) ∧ MAt q (n + 1) (max d dp) W ∧ H W ∧ w.grownBy W (some q)) := Lib.hid (by
          rintro W rfl
          exact ⟨heap_alloc_new w2 _, (((Below.refl w2.heap.size w2).alloc (Nat.le_refl _) _).block q hq2).trans HM2.out, HH.out _ _ HHW.out (alloc_only _ _ _), only_trans HGW.out (alloc_only _ _ _)⟩)
        clear hq2
        obtain ⟨W3, hW3⟩ : ∃ x, w2.alloc (.cells #[.int .i64 i0, .string t1, .slice none 0 0, .slice a3 n3 m3] 32) = x := ⟨_, rfl⟩
        obtain ⟨y, hy⟩ : ∃ x, x = w2.heap.size := ⟨_, rfl⟩
        rw [hW3, ← hy]
        obtain ⟨e1, e2, e3, e4⟩ := GY.out W3 hW3
        rw [← hy] at e1
        have HE := Lib.hid (And.intro e2 (And.intro e3 e4))
        have y0 : W3.cell? ⟨y, 0, none⟩ = some (.int .i64 i0) := cell_blk e1 0
        have y1 : W3.cell? ⟨y, 1, none⟩ = some (.string t1) := cell_blk e1 1
        have y2 : W3.cell? ⟨y, 2, none⟩ = some (.slice none 0 0) := cell_blk e1 2
        have y3 : W3.cell? ⟨y, 3, none⟩ = some (.slice a3 n3 m3) := cell_blk e1 3
        clear e1 e2 e3 e4 hW3 hy GY
        go_wp2_with (go_at_call 19; (with_reducible refine (CI.out _ HS.out.1 HS.out.2.1 HS.out.2.2 HE.out.1 HE.out.2.1).mono ?_); rintro e w4 ⟨rfl, h1, h2⟩; have HZ4 := Lib.hid (And.intro h1 (only_trans HE.out.2.2 h2)); clear h1 h2)
        go_roundw
        case rel => exact .inr ⟨rfl, HZ4⟩
        case measure => simp [intOf]
      · go_wp2_with fail
        go_ret
        exact ⟨rfl, HE.out⟩
end Go.Proofs.Ythhimllddgfddaa
