/- Layer 15: the order of files; sorting files that stand in order. Conditions: those written at each theorem. -/
import Derived.Test.YthodlkacfcnhnaaEdD
namespace Go.Proofs.Ythodlkacfcnhnaa
open Go.RowKit Go.Sort
set_option linter.unusedVariables false
set_option linter.unusedSimpArgs false
theorem nan_int (x : Int) (w : World) : Calls Try.prog 72 #[.int .i64 x] w fun e w' => e = .returned (.bool false) ∧ w = w' := by
  go_enter Try.func72, Try.ntmps72
  go_wp2_with fail
  go_ret
  exact ⟨by simp, rfl⟩
theorem nan_text (x : ByteArray) (w : World) : Calls Try.prog 73 #[.string x] w fun e w' => e = .returned (.bool false) ∧ w = w' := by
  go_enter Try.func73, Try.ntmps73
  go_wp2_with fail
  go_ret
  exact ⟨by simp, rfl⟩
theorem cmp_int_lt (x y : Int) (h : x < y) (w : World) : Calls Try.prog 65 #[.int .i64 x, .int .i64 y] w fun e w' => e = .returned (.int .i64 (-1)) ∧ w = w' := by
  go_enter Try.func65, Try.ntmps65
  go_wp2_with (go_at_call 72; (with_reducible refine (nan_int _ _).mono ?_); rintro e w' ⟨rfl, rfl⟩)
  go_ret
  exact ⟨rfl, rfl⟩
theorem cmp_int_ge (x y : Int) (h : y ≤ x) (w : World) : Calls Try.prog 65 #[.int .i64 x, .int .i64 y] w fun e w' => (∃ r : Int, 0 ≤ r ∧ e = .returned (.int .i64 r)) ∧ w = w' := by
  have h1 : ¬ x < y := by omega
  rcases Int.lt_or_le y x with h2 | h2
  · clear h
    go_enter Try.func65, Try.ntmps65
    go_wp2_with (go_at_call 72; (with_reducible refine (nan_int _ _).mono ?_); rintro e w' ⟨rfl, rfl⟩)
    go_ret
    exact ⟨⟨1, by omega, rfl⟩, rfl⟩
  · have h3 : ¬ y < x := by omega
    clear h h2
    go_enter Try.func65, Try.ntmps65
    go_wp2_with (go_at_call 72; (with_reducible refine (nan_int _ _).mono ?_); rintro e w' ⟨rfl, rfl⟩)
    go_ret
    exact ⟨⟨0, by omega, rfl⟩, rfl⟩
theorem cmp_text_ge (x y : ByteArray) (h : Op.bytesLess x.toList y.toList = false) (w : World) : Calls Try.prog 66 #[.string x, .string y] w fun e w' => (∃ r : Int, 0 ≤ r ∧ e = .returned (.int .i64 r)) ∧ w = w' := by
  cases h2 : (x.toList == y.toList)
  · go_enter Try.func66, Try.ntmps66
    go_wp2_with (go_at_call 73; (with_reducible refine (nan_text _ _).mono ?_); rintro e w' ⟨rfl, rfl⟩)
    go_ret
    exact ⟨⟨1, by omega, rfl⟩, rfl⟩
  · go_enter Try.func66, Try.ntmps66
    go_wp2_with (go_at_call 73; (with_reducible refine (nan_text _ _).mono ?_); rintro e w' ⟨rfl, rfl⟩)
    go_ret
    exact ⟨⟨0, by omega, rfl⟩, rfl⟩
/-- f may stand ahead of g. -/
def LeF (f g : Fl) : Prop := f.lvl < g.lvl ∨ (f.lvl = g.lvl ∧ (g.lvl = 0 → g.num ≤ f.num) ∧ (g.lvl ≠ 0 → Op.bytesLess g.fst.toList f.fst.toList = false))
set_option maxRecDepth 100000 in
theorem order_ge (f g : Fl) (h : LeF f g) (w : World) : Calls Try.prog 49 #[.agg #[.int .i64 g.num, .int .i64 g.lvl, .string g.fst, .string g.lst, .int .i64 g.cnt, .int .i64 g.sz], .agg #[.int .i64 f.num, .int .i64 f.lvl, .string f.fst, .string f.lst, .int .i64 f.cnt, .int .i64 f.sz]] w fun e w' => (∃ r : Int, 0 ≤ r ∧ e = .returned (.int .i64 r)) ∧ Below w.heap.size w w' := by
  have hb (x y : Obj) : Below w.heap.size w ((w.alloc x).alloc y) := ((Below.refl _ _).alloc (Nat.le_refl _) _).alloc (by simp) _
  have HB := Lib.hid hb
  clear hb
  obtain ⟨fn, fv, ff, fe, fc, fz⟩ := f
  obtain ⟨gn, gv, gf, ge, gc, gz⟩ := g
  dsimp only [LeF] at h
  rcases h with h | ⟨rfl, h0, h1⟩
  · have hne : ¬ gv = fv := by omega
    have CI := Lib.hid (cmp_int_ge gv fv (by omega))
    clear h
    go_enter Try.func49, Try.ntmps49
    go_wp2_with (go_at_call 65; (with_reducible refine (CI.out _).mono ?_); rintro e w' ⟨⟨r, hr, rfl⟩, rfl⟩; have HR := Lib.hid hr; clear hr)
    go_ret
    exact ⟨⟨r, HR.out, rfl⟩, HB.out _ _⟩
  · by_cases hz : fv = 0
    · subst hz
      have CI := Lib.hid (cmp_int_ge fn gn (h0 rfl))
      clear h0 h1
      go_enter Try.func49, Try.ntmps49
      go_wp2_with (go_at_call 65; (with_reducible refine (CI.out _).mono ?_); rintro e w' ⟨⟨r, hr, rfl⟩, rfl⟩; have HR := Lib.hid hr; clear hr)
      go_ret
      exact ⟨⟨r, HR.out, rfl⟩, HB.out _ _⟩
    · have CT := Lib.hid (cmp_text_ge gf ff (h1 hz))
      clear h0 h1
      go_enter Try.func49, Try.ntmps49
      go_wp2_with (go_at_call 66; (with_reducible refine (CT.out _).mono ?_); rintro e w' ⟨⟨r, hr, rfl⟩, rfl⟩; have HR := Lib.hid hr; clear hr)
      go_ret
      exact ⟨⟨r, HR.out, rfl⟩, HB.out _ _⟩
/-- Files that stand in order. -/
def Srt (l : List Fl) : Prop := ∀ (i j : Nat) f g, i < j → l[i]? = some f → l[j]? = some g → LeF f g
set_option maxRecDepth 100000 in
set_option maxHeartbeats 4000000 in
theorem ins_sorted {B : Nat} {ao : Option Addr} {c : Nat} {l : List Fl} {w : World} (h : FlAt B ao l w) (hB : B ≤ w.heap.size) (hc : l.length ≤ c) (hl : l.length ≤ 1000) (hs : Srt l) (p q : Nat) (hq : q ≤ l.length) (hp : p ≤ 1000) :
    Calls Try.prog 70 #[.slice ao l.length c, .int .i64 p, .int .i64 q, .func (.func 49) #[] #[]] w fun e w' => e = .returned (.tuple #[]) ∧ Below w.heap.size w w' := by
  obtain ⟨n, hn⟩ : ∃ n, n = l.length := ⟨_, rfl⟩
  have HN := Lib.hid hn
  rw [← hn] at hc hl hq ⊢
  have HS : Hid (∀ W, Below w.heap.size w W → FlAt B ao l W) := Lib.hid fun W hW => h.under (hW.mono hB)
  have HO : Hid (∀ (i j : Nat) f g, i < j → l[i]? = some f → l[j]? = some g → ∀ W, Calls Try.prog 49 #[.agg #[.int .i64 g.num, .int .i64 g.lvl, .string g.fst, .string g.lst, .int .i64 g.cnt, .int .i64 g.sz], .agg #[.int .i64 f.num, .int .i64 f.lvl, .string f.fst, .string f.lst, .int .i64 f.cnt, .int .i64 f.sz]] W fun e w' => (∃ r : Int, 0 ≤ r ∧ e = .returned (.int .i64 r)) ∧ Below W.heap.size W w') := Lib.hid fun i j f g h1 h2 h3 W => order_ge f g (hs i j f g h1 h2 h3) W
  clear hn h hs
  go_enter Try.func70, Try.ntmps70
  have hp1 : IntKind.i64.wrap ((p : Int) + 1) = ((p + 1 : Nat) : Int) := (IntWalk.i64_in _ (by omega)).trans (by omega)
  go_upto_region 1 with fail
  go_loopw [8] (fun v wr => ∃ i : Nat, v = .int .i64 i ∧ p + 1 ≤ i ∧ i ≤ max q (p + 1) ∧ Hid (Below w.heap.size w wr)) (fun v _ => q - (intOf v).toNat)
  case atStart => exact ⟨p + 1, rfl, by omega, by omega, Lib.hid (Below.refl _ _)⟩
  case round =>
    obtain ⟨i, rfl, hi1, hi2, HB⟩ := hrel
    by_cases hlt : i < q
    · have hpos : 0 < l.length := by rw [← HN.out]; omega
      obtain ⟨a, rfl⟩ := (HS.out wr HB.out).there hpos
      obtain ⟨m, hm⟩ : ∃ m, i = m + 1 := ⟨i - 1, by omega⟩
      obtain ⟨g, hg⟩ : ∃ f, l[i]? = some f := ⟨_, List.getElem?_eq_getElem (by rw [← HN.out]; omega)⟩
      obtain ⟨f, hf⟩ : ∃ f, l[m]? = some f := ⟨_, List.getElem?_eq_getElem (by rw [← HN.out]; omega)⟩
      have CO := Lib.hid (HO.out m i f g (by omega) hf hg)
      have HC := Lib.hid (And.intro (((HS.out wr HB.out).cells a rfl hpos).2 i g hg) (((HS.out wr HB.out).cells a rfl hpos).2 m f hf))
      obtain ⟨⟨c0, c1, c2, c3, c4, c5⟩, ⟨d0, d1, d2, d3, d4, d5⟩⟩ := HC.out
      have j0 : (0 : Int) ≤ (i : Int) := by omega
      have j1 : (i : Int) < (n : Int) := by omega
      have j2 : (0 : Int) ≤ (m : Int) := by omega
      have j3 : (m : Int) < (n : Int) := by omega
      have j4 : (p : Int) < (i : Int) := by omega
      have j5 : (i : Int) < (q : Int) := by omega
      have hs1 : IntKind.i64.wrap ((i : Int) - 1) = (m : Int) := (IntWalk.i64_in _ (by omega)).trans (by omega)
      have hs2 : IntKind.i64.wrap ((i : Int) + 1) = ((i + 1 : Nat) : Int) := (IntWalk.i64_in _ (by omega)).trans (by omega)
      have HN2 := Lib.hid (show i + 1 ≤ max q (p + 1) ∧ p + 1 ≤ i + 1 ∧ q - (i + 1) < q - i from ⟨by omega, by omega, by omega⟩)
      obtain ⟨fn, fv, ff, fe, fc, fz⟩ := f
      obtain ⟨gn, gv, gf, ge, gc, gz⟩ := g
      dsimp only at c0 c1 c2 c3 c4 c5 d0 d1 d2 d3 d4 d5
      clear hpos hf hg hm hi1 hi2 hlt hq hp hp1
      go_upto_region 4 with fail
      have KX : Hid (∀ W, Below wr.heap.size wr W → (W.cell? (a.add (i * 6)) = some (.int .i64 gn) ∧ W.cell? ⟨(a.add (i * 6)).block, (a.add (i * 6)).off + 1, none⟩ = some (.int .i64 gv) ∧ W.cell? ⟨(a.add (i * 6)).block, (a.add (i * 6)).off + 2, none⟩ = some (.string gf) ∧ W.cell? ⟨(a.add (i * 6)).block, (a.add (i * 6)).off + 3, none⟩ = some (.string ge) ∧ W.cell? ⟨(a.add (i * 6)).block, (a.add (i * 6)).off + 4, none⟩ = some (.int .i64 gc) ∧ W.cell? ⟨(a.add (i * 6)).block, (a.add (i * 6)).off + 5, none⟩ = some (.int .i64 gz)) ∧ W.cell? (a.add (m * 6)) = some (.int .i64 fn) ∧ W.cell? ⟨(a.add (m * 6)).block, (a.add (m * 6)).off + 1, none⟩ = some (.int .i64 fv) ∧ W.cell? ⟨(a.add (m * 6)).block, (a.add (m * 6)).off + 2, none⟩ = some (.string ff) ∧ W.cell? ⟨(a.add (m * 6)).block, (a.add (m * 6)).off + 3, none⟩ = some (.string fe) ∧ W.cell? ⟨(a.add (m * 6)).block, (a.add (m * 6)).off + 4, none⟩ = some (.int .i64 fc) ∧ W.cell? ⟨(a.add (m * 6)).block, (a.add (m * 6)).off + 5, none⟩ = some (.int .i64 fz)) := Lib.hid fun W hW => ⟨HC.out.1.under (World.block_lt_of_cell? _ _ HC.out.1.1) hW, HC.out.2.under (World.block_lt_of_cell? _ _ HC.out.2.1) hW⟩
      clear HC
      go_loopw [9] (fun v W => v = .int .i64 i ∧ wr = W) (fun _ _ => 0)
      case atStart => exact ⟨rfl, rfl⟩
      case round =>
      obtain ⟨rfl, rfl⟩ := hrel
      go_upto_region 4 with fail
      go_region_held3 (fun W => (W.cell? (a.add (i * 6)) = some (.int .i64 gn) ∧ W.cell? ⟨(a.add (i * 6)).block, (a.add (i * 6)).off + 1, none⟩ = some (.int .i64 gv) ∧ W.cell? ⟨(a.add (i * 6)).block, (a.add (i * 6)).off + 2, none⟩ = some (.string gf) ∧ W.cell? ⟨(a.add (i * 6)).block, (a.add (i * 6)).off + 3, none⟩ = some (.string ge) ∧ W.cell? ⟨(a.add (i * 6)).block, (a.add (i * 6)).off + 4, none⟩ = some (.int .i64 gc) ∧ W.cell? ⟨(a.add (i * 6)).block, (a.add (i * 6)).off + 5, none⟩ = some (.int .i64 gz)) ∧ W.cell? (a.add (m * 6)) = some (.int .i64 fn) ∧ W.cell? ⟨(a.add (m * 6)).block, (a.add (m * 6)).off + 1, none⟩ = some (.int .i64 fv) ∧ W.cell? ⟨(a.add (m * 6)).block, (a.add (m * 6)).off + 2, none⟩ = some (.string ff) ∧ W.cell? ⟨(a.add (m * 6)).block, (a.add (m * 6)).off + 3, none⟩ = some (.string fe) ∧ W.cell? ⟨(a.add (m * 6)).block, (a.add (m * 6)).off + 4, none⟩ = some (.int .i64 fc) ∧ W.cell? ⟨(a.add (m * 6)).block, (a.add (m * 6)).off + 5, none⟩ = some (.int .i64 fz))
        (first | exact KX.out _ HBW.out | (go_keep; done))
        ((go_at_call 49; (with_reducible refine (CO.out _).mono ?_); rintro e W1 ⟨⟨r, hr, rfl⟩, hb⟩; have HR := Lib.hid hr; have HB1 := Lib.hid (undraw (B := wr.heap.size) hb); have HBW := HB1; have hr2 : ¬ r < 0 := (by omega); clear hr hb))
      go_wp2_with fail
      go_roundw
      case rel => exact ⟨i + 1, rfl, HN2.out.2.1, HN2.out.1, Lib.hid (below_mono HB.out HB1.out (Nat.le_refl _))⟩
      case measure => simpa [intOf] using HN2.out.2.2
    · go_wp2_with fail
      go_end0
      exact ⟨rfl, HB.out⟩
end Go.Proofs.Ythodlkacfcnhnaa
