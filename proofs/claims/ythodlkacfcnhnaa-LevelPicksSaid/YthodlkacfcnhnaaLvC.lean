/- Layer 15: merging and stable sorting of files that stand in order. Conditions: those written at each theorem. -/
import Derived.Test.YthodlkacfcnhnaaLvB
namespace Go.Proofs.Ythodlkacfcnhnaa
open Go.RowKit Go.Sort
set_option linter.unusedVariables false
set_option linter.unusedSimpArgs false
set_option maxRecDepth 100000 in
set_option maxHeartbeats 8000000 in
theorem sym_gen {z : Nat} {B : Nat} {ao : Option Addr} {c : Nat} {l : List Fl} (hc : l.length ≤ c) (hl : l.length ≤ 1000) (hs : Srt l) (p m q : Nat) (hpm : p < m) (hmq : m < q) (hq : q ≤ l.length) (w : World) (h : FlAt B ao l w) (hB : B ≤ w.heap.size) (h1 : ¬ m - p = 1) (h2 : ¬ q - m = 1) (hz : q - p ≤ z)
    (IH0 : ∀ p m q : Nat, q - p < z → p < m → m < q → q ≤ l.length → ∀ w : World, FlAt B ao l w → B ≤ w.heap.size → Calls Try.prog 71 #[.slice ao l.length c, .int .i64 p, .int .i64 m, .int .i64 q, ordV] w fun e w' => e = .returned (.tuple #[]) ∧ Below w.heap.size w w') :
    Calls Try.prog 71 #[.slice ao l.length c, .int .i64 p, .int .i64 m, .int .i64 q, ordV] w fun e w' => e = .returned (.tuple #[]) ∧ Below w.heap.size w w' := by
  have IH := Lib.hid IH0
  clear IH0
  obtain ⟨n, hn⟩ : ∃ n, n = l.length := ⟨_, rfl⟩
  have HN := Lib.hid hn
  rw [← hn] at hc hl hq IH ⊢
  have HS : Hid (∀ W, Below w.heap.size w W → FlAt B ao l W) := Lib.hid fun W hW => h.under (hW.mono hB)
  have HO : Hid (∀ (i j : Nat) f g, i < j → l[i]? = some f → l[j]? = some g → ∀ W, Calls Try.prog 49 #[.agg #[.int .i64 g.num, .int .i64 g.lvl, .string g.fst, .string g.lst, .int .i64 g.cnt, .int .i64 g.sz], .agg #[.int .i64 f.num, .int .i64 f.lvl, .string f.fst, .string f.lst, .int .i64 f.cnt, .int .i64 f.sz]] W fun e w' => (∃ r : Int, 0 ≤ r ∧ e = .returned (.int .i64 r)) ∧ Below W.heap.size W w') := Lib.hid fun i j f g h1 h2 h3 W => order_ge f g (hs i j f g h1 h2 h3) W
  have HPOS : Hid (0 < l.length) := Lib.hid (by rw [← hn]; omega)
  obtain ⟨a, rfl⟩ := h.there HPOS.out
  have HF := Lib.hid h
  have HBB := Lib.hid hB
  clear hn h hs hB
  have e1 : IntKind.i64.wrap ((m : Int) - (p : Int)) = ((m - p : Nat) : Int) := (IntWalk.i64_in _ (by omega)).trans (by omega)
  have hne1 : ¬ ((m - p : Nat) : Int) = 1 := by omega
  have g1 : IntKind.i64.wrap ((q : Int) - (m : Int)) = ((q - m : Nat) : Int) := (IntWalk.i64_in _ (by omega)).trans (by omega)
  have hne2 : ¬ ((q - m : Nat) : Int) = 1 := by omega
  obtain ⟨d, hd, d0, d1, d2, d3, d4⟩ := half_sum p q (by omega)
  obtain ⟨N, hN⟩ : ∃ N, N = d + m := ⟨_, rfl⟩
  obtain ⟨P, hP⟩ : ∃ P, P + 1 = N := ⟨N - 1, by omega⟩
  have f2 : IntKind.i64.wrap ((d : Int) + (m : Int)) = (N : Int) := (IntWalk.i64_in _ (by omega)).trans (by omega)
  have f4 : IntKind.i64.wrap ((N : Int) - 1) = (P : Int) := (IntWalk.i64_in _ (by omega)).trans (by omega)
  have HE := Lib.hid (And.intro hd (And.intro hN hP))
  by_cases hmd : d < m
  · obtain ⟨s0, hs0⟩ : ∃ s, s + q = N := ⟨N - q, by omega⟩
    have f3 : IntKind.i64.wrap ((N : Int) - (q : Int)) = (s0 : Int) := (IntWalk.i64_in _ (by omega)).trans (by omega)
    have f5 : IntKind.i64.wrap ((N : Int) - (d : Int)) = (m : Int) := (IntWalk.i64_in _ (by omega)).trans (by omega)
    have m0 : (d : Int) < (m : Int) := by omega
    have m1 : ¬ (m : Int) < (m : Int) := by omega
    have m2 : ¬ (d : Int) < (d : Int) := by omega
    have m3 : (m : Int) < (q : Int) := by omega
    have m4 : (p : Int) < (d : Int) := by omega
    have CI : Hid (∀ W, Below w.heap.size w W → Calls Try.prog 71 #[.slice (some a) n c, .int .i64 d, .int .i64 m, .int .i64 q, ordV] W fun e w' => e = .returned (.tuple #[]) ∧ Below W.heap.size W w') := Lib.hid fun W hW => IH.out d m q (by omega) (by omega) (by omega) hq W (HS.out W hW) (by have := hW.size; have := HBB.out; omega)
    have HS0 := Lib.hid hs0
    have HS1 := Lib.hid (show s0 ≤ d by omega)
    clear hd hN hP hs0 hmd h1 h2
    go_enter Try.func71, Try.ntmps71
    go_upto_region 33 with fail
    go_loopw [20, 21] (fun x y wr => ∃ i : Nat, x = .int .i64 i ∧ y = .int .i64 d ∧ s0 ≤ i ∧ i ≤ d ∧ Hid (Below w.heap.size w wr)) (fun x _ _ => d - (intOf x).toNat)
    case atStart => exact ⟨s0, rfl, rfl, Nat.le_refl _, HS1.out, Lib.hid (Below.refl _ _)⟩
    case round =>
      obtain ⟨i, rfl, rfl, hi1, hi2, HB⟩ := hrel
      obtain ⟨hd, hN, hP⟩ := HE.out
      have hs0 := HS0.out
      by_cases hlt : i < d
      · obtain ⟨h, hh, t0, t1, t2, t3, t4⟩ := half_sum i d (by omega)
        obtain ⟨u, hu⟩ : ∃ u, u + h = P := ⟨P - h, by omega⟩
        have t6 : IntKind.i64.wrap ((P : Int) - (h : Int)) = (u : Int) := (IntWalk.i64_in _ (by omega)).trans (by omega)
        have t5 : IntKind.i64.wrap ((h : Int) + 1) = ((h + 1 : Nat) : Int) := (IntWalk.i64_in _ (by omega)).trans (by omega)
        have j0 : (i : Int) < (d : Int) := by omega
        have j1 : (0 : Int) ≤ (h : Int) := by omega
        have j2 : (h : Int) < (n : Int) := by omega
        have j3 : (0 : Int) ≤ (u : Int) := by omega
        have j4 : (u : Int) < (n : Int) := by omega
        obtain ⟨g, hg⟩ : ∃ f, l[u]? = some f := ⟨_, List.getElem?_eq_getElem (by rw [← HN.out]; omega)⟩
        obtain ⟨f, hf⟩ : ∃ f, l[h]? = some f := ⟨_, List.getElem?_eq_getElem (by rw [← HN.out]; omega)⟩
        have CO := Lib.hid (HO.out h u f g (by omega) hf hg)
        have HC := Lib.hid (And.intro (((HS.out wr HB.out).cells a rfl HPOS.out).2 u g hg) (((HS.out wr HB.out).cells a rfl HPOS.out).2 h f hf))
        obtain ⟨⟨c0, c1, c2, c3, c4, c5⟩, ⟨d0, d1, d2, d3, d4, d5⟩⟩ := HC.out
        obtain ⟨fn, fv, ff, fe, fc, fz⟩ := f
        obtain ⟨gn, gv, gf, ge, gc, gz⟩ := g
        dsimp only at c0 c1 c2 c3 c4 c5 d0 d1 d2 d3 d4 d5
        have KX : Hid (∀ W, Below wr.heap.size wr W → (W.cell? (a.add (u * 6)) = some (.int .i64 gn) ∧ W.cell? ⟨(a.add (u * 6)).block, (a.add (u * 6)).off + 1, none⟩ = some (.int .i64 gv) ∧ W.cell? ⟨(a.add (u * 6)).block, (a.add (u * 6)).off + 2, none⟩ = some (.string gf) ∧ W.cell? ⟨(a.add (u * 6)).block, (a.add (u * 6)).off + 3, none⟩ = some (.string ge) ∧ W.cell? ⟨(a.add (u * 6)).block, (a.add (u * 6)).off + 4, none⟩ = some (.int .i64 gc) ∧ W.cell? ⟨(a.add (u * 6)).block, (a.add (u * 6)).off + 5, none⟩ = some (.int .i64 gz)) ∧ W.cell? (a.add (h * 6)) = some (.int .i64 fn) ∧ W.cell? ⟨(a.add (h * 6)).block, (a.add (h * 6)).off + 1, none⟩ = some (.int .i64 fv) ∧ W.cell? ⟨(a.add (h * 6)).block, (a.add (h * 6)).off + 2, none⟩ = some (.string ff) ∧ W.cell? ⟨(a.add (h * 6)).block, (a.add (h * 6)).off + 3, none⟩ = some (.string fe) ∧ W.cell? ⟨(a.add (h * 6)).block, (a.add (h * 6)).off + 4, none⟩ = some (.int .i64 fc) ∧ W.cell? ⟨(a.add (h * 6)).block, (a.add (h * 6)).off + 5, none⟩ = some (.int .i64 fz)) := Lib.hid fun W hW => ⟨HC.out.1.under (World.block_lt_of_cell? _ _ HC.out.1.1) hW, HC.out.2.under (World.block_lt_of_cell? _ _ HC.out.2.1) hW⟩
        clear HC hf hg
        have HZ := Lib.hid (show s0 ≤ h + 1 ∧ h + 1 ≤ d ∧ d - (h + 1) < d - i by omega)
        clear hh hlt hi1 hi2 hu hd hN hP hs0
        go_upto_region 35 with fail
        go_region_held3 (fun W => (W.cell? (a.add (u * 6)) = some (.int .i64 gn) ∧ W.cell? ⟨(a.add (u * 6)).block, (a.add (u * 6)).off + 1, none⟩ = some (.int .i64 gv) ∧ W.cell? ⟨(a.add (u * 6)).block, (a.add (u * 6)).off + 2, none⟩ = some (.string gf) ∧ W.cell? ⟨(a.add (u * 6)).block, (a.add (u * 6)).off + 3, none⟩ = some (.string ge) ∧ W.cell? ⟨(a.add (u * 6)).block, (a.add (u * 6)).off + 4, none⟩ = some (.int .i64 gc) ∧ W.cell? ⟨(a.add (u * 6)).block, (a.add (u * 6)).off + 5, none⟩ = some (.int .i64 gz)) ∧ W.cell? (a.add (h * 6)) = some (.int .i64 fn) ∧ W.cell? ⟨(a.add (h * 6)).block, (a.add (h * 6)).off + 1, none⟩ = some (.int .i64 fv) ∧ W.cell? ⟨(a.add (h * 6)).block, (a.add (h * 6)).off + 2, none⟩ = some (.string ff) ∧ W.cell? ⟨(a.add (h * 6)).block, (a.add (h * 6)).off + 3, none⟩ = some (.string fe) ∧ W.cell? ⟨(a.add (h * 6)).block, (a.add (h * 6)).off + 4, none⟩ = some (.int .i64 fc) ∧ W.cell? ⟨(a.add (h * 6)).block, (a.add (h * 6)).off + 5, none⟩ = some (.int .i64 fz))
          (first | exact KX.out _ HBW.out | (go_keep; done))
          ((go_at_call 49; (with_reducible refine (CO.out _).mono ?_); rintro e W1 ⟨⟨r, hr, rfl⟩, hb⟩; have HBW := Lib.hid (undraw (B := wr.heap.size) hb); have hr2 : ¬ r < 0 := (by omega); have hr3 : decide (r < 0) = false := (by simp; omega); clear hr hb))
        go_wp2_with fail
        go_roundw
        case rel => exact ⟨h + 1, rfl, rfl, HZ.out.1, HZ.out.2.1, Lib.hid (below_mono HB.out HBW.out (Nat.le_refl _))⟩
        case measure => simpa [intOf] using HZ.out.2.2
      · have hid : i = d := by omega
        subst hid
        clear hlt hi1 hi2 hd hN hP hs0
        go_wp2_with (go_at_call 71; (with_reducible refine (CI.out _ HB.out).mono ?_); rintro e W1 ⟨rfl, hb⟩; have HB1 := Lib.hid (below_mono HB.out hb (Nat.le_refl _)); clear hb)
        go_end0
        exact ⟨rfl, HB1.out⟩
  · have f5 : IntKind.i64.wrap ((N : Int) - (m : Int)) = (d : Int) := (IntWalk.i64_in _ (by omega)).trans (by omega)
    have m0 : ¬ (d : Int) < (m : Int) := by omega
    have m1 : ¬ (m : Int) < (m : Int) := by omega
    have m2 : ¬ (d : Int) < (d : Int) := by omega
    have m4 : (p : Int) < (m : Int) := by omega
    have CI : Hid (m < d → ∀ W, Below w.heap.size w W → Calls Try.prog 71 #[.slice (some a) n c, .int .i64 p, .int .i64 m, .int .i64 d, ordV] W fun e w' => e = .returned (.tuple #[]) ∧ Below W.heap.size W w') := Lib.hid fun hmd2 W hW => IH.out p m d (by omega) hpm hmd2 (by omega) W (HS.out W hW) (by have := hW.size; have := HBB.out; omega)
    have HMD := Lib.hid hmd
    clear hd hN hP h1 h2 hmd
    go_enter Try.func71, Try.ntmps71
    go_upto_region 33 with fail
    go_loopw [20, 21] (fun x y wr => ∃ i : Nat, x = .int .i64 i ∧ y = .int .i64 m ∧ p ≤ i ∧ i ≤ m ∧ Hid (Below w.heap.size w wr)) (fun x _ _ => m - (intOf x).toNat)
    case atStart => exact ⟨p, rfl, rfl, Nat.le_refl _, by omega, Lib.hid (Below.refl _ _)⟩
    case round =>
      obtain ⟨i, rfl, rfl, hi1, hi2, HB⟩ := hrel
      obtain ⟨hd, hN, hP⟩ := HE.out
      have hmd := HMD.out
      by_cases hlt : i < m
      · obtain ⟨h, hh, t0, t1, t2, t3, t4⟩ := half_sum i m (by omega)
        obtain ⟨u, hu⟩ : ∃ u, u + h = P := ⟨P - h, by omega⟩
        have t6 : IntKind.i64.wrap ((P : Int) - (h : Int)) = (u : Int) := (IntWalk.i64_in _ (by omega)).trans (by omega)
        have t5 : IntKind.i64.wrap ((h : Int) + 1) = ((h + 1 : Nat) : Int) := (IntWalk.i64_in _ (by omega)).trans (by omega)
        have j0 : (i : Int) < (m : Int) := by omega
        have j1 : (0 : Int) ≤ (h : Int) := by omega
        have j2 : (h : Int) < (n : Int) := by omega
        have j3 : (0 : Int) ≤ (u : Int) := by omega
        have j4 : (u : Int) < (n : Int) := by omega
        obtain ⟨g, hg⟩ : ∃ f, l[u]? = some f := ⟨_, List.getElem?_eq_getElem (by rw [← HN.out]; omega)⟩
        obtain ⟨f, hf⟩ : ∃ f, l[h]? = some f := ⟨_, List.getElem?_eq_getElem (by rw [← HN.out]; omega)⟩
        have CO := Lib.hid (HO.out h u f g (by omega) hf hg)
        have HC := Lib.hid (And.intro (((HS.out wr HB.out).cells a rfl HPOS.out).2 u g hg) (((HS.out wr HB.out).cells a rfl HPOS.out).2 h f hf))
        obtain ⟨⟨c0, c1, c2, c3, c4, c5⟩, ⟨d0, d1, d2, d3, d4, d5⟩⟩ := HC.out
        obtain ⟨fn, fv, ff, fe, fc, fz⟩ := f
        obtain ⟨gn, gv, gf, ge, gc, gz⟩ := g
        dsimp only at c0 c1 c2 c3 c4 c5 d0 d1 d2 d3 d4 d5
        have KX : Hid (∀ W, Below wr.heap.size wr W → (W.cell? (a.add (u * 6)) = some (.int .i64 gn) ∧ W.cell? ⟨(a.add (u * 6)).block, (a.add (u * 6)).off + 1, none⟩ = some (.int .i64 gv) ∧ W.cell? ⟨(a.add (u * 6)).block, (a.add (u * 6)).off + 2, none⟩ = some (.string gf) ∧ W.cell? ⟨(a.add (u * 6)).block, (a.add (u * 6)).off + 3, none⟩ = some (.string ge) ∧ W.cell? ⟨(a.add (u * 6)).block, (a.add (u * 6)).off + 4, none⟩ = some (.int .i64 gc) ∧ W.cell? ⟨(a.add (u * 6)).block, (a.add (u * 6)).off + 5, none⟩ = some (.int .i64 gz)) ∧ W.cell? (a.add (h * 6)) = some (.int .i64 fn) ∧ W.cell? ⟨(a.add (h * 6)).block, (a.add (h * 6)).off + 1, none⟩ = some (.int .i64 fv) ∧ W.cell? ⟨(a.add (h * 6)).block, (a.add (h * 6)).off + 2, none⟩ = some (.string ff) ∧ W.cell? ⟨(a.add (h * 6)).block, (a.add (h * 6)).off + 3, none⟩ = some (.string fe) ∧ W.cell? ⟨(a.add (h * 6)).block, (a.add (h * 6)).off + 4, none⟩ = some (.int .i64 fc) ∧ W.cell? ⟨(a.add (h * 6)).block, (a.add (h * 6)).off + 5, none⟩ = some (.int .i64 fz)) := Lib.hid fun W hW => ⟨HC.out.1.under (World.block_lt_of_cell? _ _ HC.out.1.1) hW, HC.out.2.under (World.block_lt_of_cell? _ _ HC.out.2.1) hW⟩
        clear HC hf hg
        have HZ := Lib.hid (show p ≤ h + 1 ∧ h + 1 ≤ m ∧ m - (h + 1) < m - i by omega)
        clear hh hlt hi1 hi2 hu hd hN hP hmd
        go_upto_region 35 with fail
        go_region_held3 (fun W => (W.cell? (a.add (u * 6)) = some (.int .i64 gn) ∧ W.cell? ⟨(a.add (u * 6)).block, (a.add (u * 6)).off + 1, none⟩ = some (.int .i64 gv) ∧ W.cell? ⟨(a.add (u * 6)).block, (a.add (u * 6)).off + 2, none⟩ = some (.string gf) ∧ W.cell? ⟨(a.add (u * 6)).block, (a.add (u * 6)).off + 3, none⟩ = some (.string ge) ∧ W.cell? ⟨(a.add (u * 6)).block, (a.add (u * 6)).off + 4, none⟩ = some (.int .i64 gc) ∧ W.cell? ⟨(a.add (u * 6)).block, (a.add (u * 6)).off + 5, none⟩ = some (.int .i64 gz)) ∧ W.cell? (a.add (h * 6)) = some (.int .i64 fn) ∧ W.cell? ⟨(a.add (h * 6)).block, (a.add (h * 6)).off + 1, none⟩ = some (.int .i64 fv) ∧ W.cell? ⟨(a.add (h * 6)).block, (a.add (h * 6)).off + 2, none⟩ = some (.string ff) ∧ W.cell? ⟨(a.add (h * 6)).block, (a.add (h * 6)).off + 3, none⟩ = some (.string fe) ∧ W.cell? ⟨(a.add (h * 6)).block, (a.add (h * 6)).off + 4, none⟩ = some (.int .i64 fc) ∧ W.cell? ⟨(a.add (h * 6)).block, (a.add (h * 6)).off + 5, none⟩ = some (.int .i64 fz))
          (first | exact KX.out _ HBW.out | (go_keep; done))
          ((go_at_call 49; (with_reducible refine (CO.out _).mono ?_); rintro e W1 ⟨⟨r, hr, rfl⟩, hb⟩; have HBW := Lib.hid (undraw (B := wr.heap.size) hb); have hr2 : ¬ r < 0 := (by omega); have hr3 : decide (r < 0) = false := (by simp; omega); clear hr hb))
        go_wp2_with fail
        go_roundw
        case rel => exact ⟨h + 1, rfl, rfl, HZ.out.1, HZ.out.2.1, Lib.hid (below_mono HB.out HBW.out (Nat.le_refl _))⟩
        case measure => simpa [intOf] using HZ.out.2.2
      · have hid : i = m := by omega
        subst hid
        by_cases hmd2 : i < d
        · have m6 : (i : Int) < (d : Int) := by omega
          have CJ := Lib.hid (CI.out hmd2)
          clear hlt hi1 hi2 hd hN hP hmd hmd2 CI
          go_wp2_with (go_at_call 71; (with_reducible refine (CJ.out _ HB.out).mono ?_); rintro e W1 ⟨rfl, hb⟩; have HB1 := Lib.hid (below_mono HB.out hb (Nat.le_refl _)); clear hb)
          go_end0
          exact ⟨rfl, HB1.out⟩
        · have m6 : ¬ (i : Int) < (d : Int) := by omega
          clear hlt hi1 hi2 hd hN hP hmd hmd2 CI
          go_wp2_with fail
          go_end0
          exact ⟨rfl, HB.out⟩
theorem sym_sorted {B : Nat} {ao : Option Addr} {c : Nat} {l : List Fl} (hc : l.length ≤ c) (hl : l.length ≤ 1000) (hs : Srt l) : ∀ (k p m q : Nat), q - p ≤ k → p < m → m < q → q ≤ l.length → ∀ w : World, FlAt B ao l w → B ≤ w.heap.size →
    Calls Try.prog 71 #[.slice ao l.length c, .int .i64 p, .int .i64 m, .int .i64 q, ordV] w fun e w' => e = .returned (.tuple #[]) ∧ Below w.heap.size w w' := by
  intro k
  induction k
  case zero => intros; omega
  case succ k IH =>
  intro p m q hk hpm hmq hq w h hB
  by_cases h1 : m - p = 1
  · exact sym_one hc hl hs p m q hpm hmq hq w h hB h1
  by_cases h2 : q - m = 1
  · exact sym_two hc hl hs p m q hpm hmq hq w h hB h1 h2
  exact sym_gen hc hl hs p m q hpm hmq hq w h hB h1 h2 hk fun p m q h3 => IH p m q (by omega)
end Go.Proofs.Ythodlkacfcnhnaa
