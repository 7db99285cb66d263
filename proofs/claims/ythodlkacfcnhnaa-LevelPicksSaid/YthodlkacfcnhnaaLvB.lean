/- Layer 15: merging and stable sorting of files that stand in order. Conditions: those written at each theorem. -/
import Derived.Test.YthodlkacfcnhnaaLvA
namespace Go.Proofs.Ythodlkacfcnhnaa
open Go.RowKit Go.Sort
set_option linter.unusedVariables false
set_option linter.unusedSimpArgs false
abbrev ordV : Value := .func (.func 49) #[] #[]
theorem half_sum (i j : Nat) (hb : i + j < 4000) : ∃ h : Nat, h = (i + j) / 2 ∧ ((i : Int) + (j : Int)) / 2 = (h : Int) ∧ IntKind.i64.wrap ((i : Int) + (j : Int)) = (i : Int) + (j : Int) ∧ IntKind.u64.wrap ((i : Int) + (j : Int)) = (i : Int) + (j : Int) ∧ IntKind.i64.wrap (h : Int) = (h : Int) ∧ IntKind.u64.wrap (h : Int) = (h : Int) := by
  refine ⟨(i + j) / 2, rfl, by omega, IntWalk.i64_in _ (by omega), IntWalk.u64_in _ (by omega), IntWalk.i64_in _ (by omega), IntWalk.u64_in _ (by omega)⟩
set_option maxRecDepth 100000 in
set_option maxHeartbeats 8000000 in
theorem sym_one {B : Nat} {ao : Option Addr} {c : Nat} {l : List Fl} (hc : l.length ≤ c) (hl : l.length ≤ 1000) (hs : Srt l) (p m q : Nat) (hpm : p < m) (hmq : m < q) (hq : q ≤ l.length) (w : World) (h : FlAt B ao l w) (hB : B ≤ w.heap.size) (h1 : m - p = 1) :
    Calls Try.prog 71 #[.slice ao l.length c, .int .i64 p, .int .i64 m, .int .i64 q, ordV] w fun e w' => e = .returned (.tuple #[]) ∧ Below w.heap.size w w' := by
  obtain ⟨n, hn⟩ : ∃ n, n = l.length := ⟨_, rfl⟩
  have HN := Lib.hid hn
  rw [← hn] at hc hl hq ⊢
  have HS : Hid (∀ W, Below w.heap.size w W → FlAt B ao l W) := Lib.hid fun W hW => h.under (hW.mono hB)
  have HO : Hid (∀ (i j : Nat) f g, i < j → l[i]? = some f → l[j]? = some g → ∀ W, Calls Try.prog 49 #[.agg #[.int .i64 g.num, .int .i64 g.lvl, .string g.fst, .string g.lst, .int .i64 g.cnt, .int .i64 g.sz], .agg #[.int .i64 f.num, .int .i64 f.lvl, .string f.fst, .string f.lst, .int .i64 f.cnt, .int .i64 f.sz]] W fun e w' => (∃ r : Int, 0 ≤ r ∧ e = .returned (.int .i64 r)) ∧ Below W.heap.size W w') := Lib.hid fun i j f g h1 h2 h3 W => order_ge f g (hs i j f g h1 h2 h3) W
  have HPOS : Hid (0 < l.length) := Lib.hid (by rw [← hn]; omega)
  obtain ⟨a, rfl⟩ := h.there HPOS.out
  have HF := Lib.hid h
  have HBB := Lib.hid hB
  clear hn h hs hB
  have e1 : IntKind.i64.wrap ((m : Int) - (p : Int)) = ((m - p : Nat) : Int) := (IntWalk.i64_in _ (by omega)).trans (by omega)
  · have e2 : ((m - p : Nat) : Int) = 1 := by omega
    rw [e2] at e1
    have e3 : IntKind.i64.wrap ((m : Int) - 1) = (p : Int) := (IntWalk.i64_in _ (by omega)).trans (by omega)
    have e4 : ¬ (p : Int) < (p : Int) := by omega
    have p0 : (0 : Int) ≤ (p : Int) := by omega
    have p1 : (p : Int) < (n : Int) := by omega
    clear e2
    go_enter Try.func71, Try.ntmps71
    go_upto_region 3 with fail
    go_loopw [10, 11] (fun x y wr => ∃ j : Nat, x = .int .i64 m ∧ y = .int .i64 j ∧ m ≤ j ∧ j ≤ q ∧ Hid (Below w.heap.size w wr)) (fun _ y _ => (intOf y).toNat - m)
    case atStart => exact ⟨q, rfl, rfl, by omega, by omega, Lib.hid (Below.refl _ _)⟩
    case round =>
      obtain ⟨j, rfl, rfl, hj1, hj2, HB⟩ := hrel
      by_cases hlt : m < j
      · obtain ⟨h, hh, s0, s1, s2, s3, s4⟩ := half_sum m j (by omega)
        have j0 : (m : Int) < (j : Int) := by omega
        have j1 : (0 : Int) ≤ (h : Int) := by omega
        have j2 : (h : Int) < (n : Int) := by omega
        obtain ⟨g, hg⟩ : ∃ f, l[h]? = some f := ⟨_, List.getElem?_eq_getElem (by rw [← HN.out]; omega)⟩
        obtain ⟨f, hf⟩ : ∃ f, l[p]? = some f := ⟨_, List.getElem?_eq_getElem (by rw [← HN.out]; omega)⟩
        have CO := Lib.hid (HO.out p h f g (by omega) hf hg)
        have HC := Lib.hid (And.intro (((HS.out wr HB.out).cells a rfl HPOS.out).2 h g hg) (((HS.out wr HB.out).cells a rfl HPOS.out).2 p f hf))
        obtain ⟨⟨c0, c1, c2, c3, c4, c5⟩, ⟨d0, d1, d2, d3, d4, d5⟩⟩ := HC.out
        obtain ⟨fn, fv, ff, fe, fc, fz⟩ := f
        obtain ⟨gn, gv, gf, ge, gc, gz⟩ := g
        dsimp only at c0 c1 c2 c3 c4 c5 d0 d1 d2 d3 d4 d5
        have KX : Hid (∀ W, Below wr.heap.size wr W → (W.cell? (a.add (h * 6)) = some (.int .i64 gn) ∧ W.cell? ⟨(a.add (h * 6)).block, (a.add (h * 6)).off + 1, none⟩ = some (.int .i64 gv) ∧ W.cell? ⟨(a.add (h * 6)).block, (a.add (h * 6)).off + 2, none⟩ = some (.string gf) ∧ W.cell? ⟨(a.add (h * 6)).block, (a.add (h * 6)).off + 3, none⟩ = some (.string ge) ∧ W.cell? ⟨(a.add (h * 6)).block, (a.add (h * 6)).off + 4, none⟩ = some (.int .i64 gc) ∧ W.cell? ⟨(a.add (h * 6)).block, (a.add (h * 6)).off + 5, none⟩ = some (.int .i64 gz)) ∧ W.cell? (a.add (p * 6)) = some (.int .i64 fn) ∧ W.cell? ⟨(a.add (p * 6)).block, (a.add (p * 6)).off + 1, none⟩ = some (.int .i64 fv) ∧ W.cell? ⟨(a.add (p * 6)).block, (a.add (p * 6)).off + 2, none⟩ = some (.string ff) ∧ W.cell? ⟨(a.add (p * 6)).block, (a.add (p * 6)).off + 3, none⟩ = some (.string fe) ∧ W.cell? ⟨(a.add (p * 6)).block, (a.add (p * 6)).off + 4, none⟩ = some (.int .i64 fc) ∧ W.cell? ⟨(a.add (p * 6)).block, (a.add (p * 6)).off + 5, none⟩ = some (.int .i64 fz)) := Lib.hid fun W hW => ⟨HC.out.1.under (World.block_lt_of_cell? _ _ HC.out.1.1) hW, HC.out.2.under (World.block_lt_of_cell? _ _ HC.out.2.1) hW⟩
        clear HC hf hg
        have HZ := Lib.hid (show m ≤ h ∧ h ≤ q ∧ (h : Nat) - m < j - m by omega)
        clear hh hlt hj1 hj2
        go_upto_region 5 with fail
        go_region_held3 (fun W => (W.cell? (a.add (h * 6)) = some (.int .i64 gn) ∧ W.cell? ⟨(a.add (h * 6)).block, (a.add (h * 6)).off + 1, none⟩ = some (.int .i64 gv) ∧ W.cell? ⟨(a.add (h * 6)).block, (a.add (h * 6)).off + 2, none⟩ = some (.string gf) ∧ W.cell? ⟨(a.add (h * 6)).block, (a.add (h * 6)).off + 3, none⟩ = some (.string ge) ∧ W.cell? ⟨(a.add (h * 6)).block, (a.add (h * 6)).off + 4, none⟩ = some (.int .i64 gc) ∧ W.cell? ⟨(a.add (h * 6)).block, (a.add (h * 6)).off + 5, none⟩ = some (.int .i64 gz)) ∧ W.cell? (a.add (p * 6)) = some (.int .i64 fn) ∧ W.cell? ⟨(a.add (p * 6)).block, (a.add (p * 6)).off + 1, none⟩ = some (.int .i64 fv) ∧ W.cell? ⟨(a.add (p * 6)).block, (a.add (p * 6)).off + 2, none⟩ = some (.string ff) ∧ W.cell? ⟨(a.add (p * 6)).block, (a.add (p * 6)).off + 3, none⟩ = some (.string fe) ∧ W.cell? ⟨(a.add (p * 6)).block, (a.add (p * 6)).off + 4, none⟩ = some (.int .i64 fc) ∧ W.cell? ⟨(a.add (p * 6)).block, (a.add (p * 6)).off + 5, none⟩ = some (.int .i64 fz))
          (first | exact KX.out _ HBW.out | (go_keep; done))
          ((go_at_call 49; (with_reducible refine (CO.out _).mono ?_); rintro e W1 ⟨⟨r, hr, rfl⟩, hb⟩; have HBW := Lib.hid (undraw (B := wr.heap.size) hb); have hr2 : ¬ r < 0 := (by omega); have hr3 : decide (r < 0) = false := (by simp; omega); clear hr hb))
        go_wp2_with fail
        go_roundw
        case rel => exact ⟨h, rfl, rfl, HZ.out.1, HZ.out.2.1, Lib.hid (below_mono HB.out HBW.out (Nat.le_refl _))⟩
        case measure => simpa [intOf] using HZ.out.2.2
      · obtain rfl : j = m := by omega
        have j0 : ¬ (j : Int) < (j : Int) := by omega

        go_upto_block 1 with fail
        go_loopw [13] (fun x W => x = .int .i64 p ∧ wr = W) (fun _ _ => 0)
        case atStart => exact ⟨rfl, rfl⟩
        case round =>
          obtain ⟨rfl, rfl⟩ := hrel
          go_wp2_with fail
          exact bodyPost_ret (results_none rfl _ _ _) rfl ⟨rfl, HB.out⟩
set_option maxRecDepth 100000 in
set_option maxHeartbeats 8000000 in
theorem sym_two {B : Nat} {ao : Option Addr} {c : Nat} {l : List Fl} (hc : l.length ≤ c) (hl : l.length ≤ 1000) (hs : Srt l) (p m q : Nat) (hpm : p < m) (hmq : m < q) (hq : q ≤ l.length) (w : World) (h : FlAt B ao l w) (hB : B ≤ w.heap.size) (h1 : ¬ m - p = 1) (h2 : q - m = 1) :
    Calls Try.prog 71 #[.slice ao l.length c, .int .i64 p, .int .i64 m, .int .i64 q, ordV] w fun e w' => e = .returned (.tuple #[]) ∧ Below w.heap.size w w' := by
  obtain ⟨n, hn⟩ : ∃ n, n = l.length := ⟨_, rfl⟩
  have HN := Lib.hid hn
  rw [← hn] at hc hl hq ⊢
  have HS : Hid (∀ W, Below w.heap.size w W → FlAt B ao l W) := Lib.hid fun W hW => h.under (hW.mono hB)
  have HO : Hid (∀ (i j : Nat) f g, i < j → l[i]? = some f → l[j]? = some g → ∀ W, Calls Try.prog 49 #[.agg #[.int .i64 g.num, .int .i64 g.lvl, .string g.fst, .string g.lst, .int .i64 g.cnt, .int .i64 g.sz], .agg #[.int .i64 f.num, .int .i64 f.lvl, .string f.fst, .string f.lst, .int .i64 f.cnt, .int .i64 f.sz]] W fun e w' => (∃ r : Int, 0 ≤ r ∧ e = .returned (.int .i64 r)) ∧ Below W.heap.size W w') := Lib.hid fun i j f g h1 h2 h3 W => order_ge f g (hs i j f g h1 h2 h3) W
  have HPOS : Hid (0 < l.length) := Lib.hid (by rw [← hn]; omega)
  obtain ⟨a, rfl⟩ := h.there HPOS.out
  have HF := Lib.hid h
  have HBB := Lib.hid hB
  clear hn h hs hB
  have e1 : IntKind.i64.wrap ((m : Int) - (p : Int)) = ((m - p : Nat) : Int) := (IntWalk.i64_in _ (by omega)).trans (by omega)
  have hne1 : ¬ ((m - p : Nat) : Int) = 1 := by omega
  have g1 : IntKind.i64.wrap ((q : Int) - (m : Int)) = ((q - m : Nat) : Int) := (IntWalk.i64_in _ (by omega)).trans (by omega)
  · have e2 : ((q - m : Nat) : Int) = 1 := by omega
    rw [e2] at g1
    have e4 : ¬ (m : Int) < (m : Int) := by omega
    have p0 : (0 : Int) ≤ (m : Int) := by omega
    have p1 : (m : Int) < (n : Int) := by omega
    clear e2 h1 h2
    go_enter Try.func71, Try.ntmps71
    go_upto_region 15 with fail
    go_loopw [14, 15] (fun x y wr => ∃ i : Nat, x = .int .i64 i ∧ y = .int .i64 m ∧ p ≤ i ∧ i ≤ m ∧ Hid (Below w.heap.size w wr)) (fun x _ _ => m - (intOf x).toNat)
    case atStart => exact ⟨p, rfl, rfl, by omega, by omega, Lib.hid (Below.refl _ _)⟩
    case round =>
      obtain ⟨i, rfl, rfl, hi1, hi2, HB⟩ := hrel
      by_cases hlt : i < m
      · obtain ⟨h, hh, s0, s1, s2, s3, s4⟩ := half_sum i m (by omega)
        have s5 : IntKind.i64.wrap ((h : Int) + 1) = ((h + 1 : Nat) : Int) := (IntWalk.i64_in _ (by omega)).trans (by omega)
        have j0 : (i : Int) < (m : Int) := by omega
        have j1 : (0 : Int) ≤ (h : Int) := by omega
        have j2 : (h : Int) < (n : Int) := by omega
        obtain ⟨g, hg⟩ : ∃ f, l[m]? = some f := ⟨_, List.getElem?_eq_getElem (by rw [← HN.out]; omega)⟩
        obtain ⟨f, hf⟩ : ∃ f, l[h]? = some f := ⟨_, List.getElem?_eq_getElem (by rw [← HN.out]; omega)⟩
        have CO := Lib.hid (HO.out h m f g (by omega) hf hg)
        have HC := Lib.hid (And.intro (((HS.out wr HB.out).cells a rfl HPOS.out).2 m g hg) (((HS.out wr HB.out).cells a rfl HPOS.out).2 h f hf))
        obtain ⟨⟨c0, c1, c2, c3, c4, c5⟩, ⟨d0, d1, d2, d3, d4, d5⟩⟩ := HC.out
        obtain ⟨fn, fv, ff, fe, fc, fz⟩ := f
        obtain ⟨gn, gv, gf, ge, gc, gz⟩ := g
        dsimp only at c0 c1 c2 c3 c4 c5 d0 d1 d2 d3 d4 d5
        have KX : Hid (∀ W, Below wr.heap.size wr W → (W.cell? (a.add (m * 6)) = some (.int .i64 gn) ∧ W.cell? ⟨(a.add (m * 6)).block, (a.add (m * 6)).off + 1, none⟩ = some (.int .i64 gv) ∧ W.cell? ⟨(a.add (m * 6)).block, (a.add (m * 6)).off + 2, none⟩ = some (.string gf) ∧ W.cell? ⟨(a.add (m * 6)).block, (a.add (m * 6)).off + 3, none⟩ = some (.string ge) ∧ W.cell? ⟨(a.add (m * 6)).block, (a.add (m * 6)).off + 4, none⟩ = some (.int .i64 gc) ∧ W.cell? ⟨(a.add (m * 6)).block, (a.add (m * 6)).off + 5, none⟩ = some (.int .i64 gz)) ∧ W.cell? (a.add (h * 6)) = some (.int .i64 fn) ∧ W.cell? ⟨(a.add (h * 6)).block, (a.add (h * 6)).off + 1, none⟩ = some (.int .i64 fv) ∧ W.cell? ⟨(a.add (h * 6)).block, (a.add (h * 6)).off + 2, none⟩ = some (.string ff) ∧ W.cell? ⟨(a.add (h * 6)).block, (a.add (h * 6)).off + 3, none⟩ = some (.string fe) ∧ W.cell? ⟨(a.add (h * 6)).block, (a.add (h * 6)).off + 4, none⟩ = some (.int .i64 fc) ∧ W.cell? ⟨(a.add (h * 6)).block, (a.add (h * 6)).off + 5, none⟩ = some (.int .i64 fz)) := Lib.hid fun W hW => ⟨HC.out.1.under (World.block_lt_of_cell? _ _ HC.out.1.1) hW, HC.out.2.under (World.block_lt_of_cell? _ _ HC.out.2.1) hW⟩
        clear HC hf hg
        have HZ := Lib.hid (show p ≤ h + 1 ∧ h + 1 ≤ m ∧ m - (h + 1) < m - i by omega)
        clear hh hlt hi1 hi2
        go_upto_region 17 with fail
        go_region_held3 (fun W => (W.cell? (a.add (m * 6)) = some (.int .i64 gn) ∧ W.cell? ⟨(a.add (m * 6)).block, (a.add (m * 6)).off + 1, none⟩ = some (.int .i64 gv) ∧ W.cell? ⟨(a.add (m * 6)).block, (a.add (m * 6)).off + 2, none⟩ = some (.string gf) ∧ W.cell? ⟨(a.add (m * 6)).block, (a.add (m * 6)).off + 3, none⟩ = some (.string ge) ∧ W.cell? ⟨(a.add (m * 6)).block, (a.add (m * 6)).off + 4, none⟩ = some (.int .i64 gc) ∧ W.cell? ⟨(a.add (m * 6)).block, (a.add (m * 6)).off + 5, none⟩ = some (.int .i64 gz)) ∧ W.cell? (a.add (h * 6)) = some (.int .i64 fn) ∧ W.cell? ⟨(a.add (h * 6)).block, (a.add (h * 6)).off + 1, none⟩ = some (.int .i64 fv) ∧ W.cell? ⟨(a.add (h * 6)).block, (a.add (h * 6)).off + 2, none⟩ = some (.string ff) ∧ W.cell? ⟨(a.add (h * 6)).block, (a.add (h * 6)).off + 3, none⟩ = some (.string fe) ∧ W.cell? ⟨(a.add (h * 6)).block, (a.add (h * 6)).off + 4, none⟩ = some (.int .i64 fc) ∧ W.cell? ⟨(a.add (h * 6)).block, (a.add (h * 6)).off + 5, none⟩ = some (.int .i64 fz))
          (first | exact KX.out _ HBW.out | (go_keep; done))
          ((go_at_call 49; (with_reducible refine (CO.out _).mono ?_); rintro e W1 ⟨⟨r, hr, rfl⟩, hb⟩; have HBW := Lib.hid (undraw (B := wr.heap.size) hb); have hr2 : ¬ r < 0 := (by omega); have hr3 : decide (r < 0) = false := (by simp; omega); clear hr hb))
        go_wp2_with fail
        go_roundw
        case rel => exact ⟨h + 1, rfl, rfl, HZ.out.1, HZ.out.2.1, Lib.hid (below_mono HB.out HBW.out (Nat.le_refl _))⟩
        case measure => simpa [intOf] using HZ.out.2.2
      · obtain rfl : i = m := by omega
        have j0 : ¬ (i : Int) < (i : Int) := by omega
        go_upto_region 21 with fail
        go_loopw [17] (fun x W => x = .int .i64 i ∧ wr = W) (fun _ _ => 0)
        case atStart => exact ⟨rfl, rfl⟩
        case round =>
          obtain ⟨rfl, rfl⟩ := hrel
          go_wp2_with fail
          exact bodyPost_ret (results_none rfl _ _ _) rfl ⟨rfl, HB.out⟩
end Go.Proofs.Ythodlkacfcnhnaa
