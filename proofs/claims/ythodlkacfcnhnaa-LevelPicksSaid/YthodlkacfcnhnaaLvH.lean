/- Layer 15: the span of files; whether a key is at the bottom. Conditions: those written at each theorem. -/
import Derived.Test.YthodlkacfcnhnaaLvG
namespace Go.Proofs.Ythodlkacfcnhnaa
open Go.RowKit Go.Sort
set_option linter.unusedVariables false
set_option linter.unusedSimpArgs false
def mxT (a b : ByteArray) : ByteArray := if Op.bytesLess a.toList b.toList = true then b else a
def mnT (a b : ByteArray) : ByteArray := if Op.bytesLess b.toList a.toList = true then b else a
theorem run_max_no (x y : ByteArray) (h : Op.bytesLess x.toList y.toList = false) (ats : Array TypeId) (ty : TypeId) (W : World) : (Builtin.max_ ats ty #[.string x, .string y]).run Try.prog W = .ok (.string x) W := by
  simp [Builtin.max_, Builtin.max2, Op.stringOp, go_sem, h]
theorem run_max_yes (x y : ByteArray) (h : Op.bytesLess x.toList y.toList = true) (ats : Array TypeId) (ty : TypeId) (W : World) : (Builtin.max_ ats ty #[.string x, .string y]).run Try.prog W = .ok (.string y) W := by
  simp [Builtin.max_, Builtin.max2, Op.stringOp, go_sem, h]
/-- The lowest first and the greatest last key. -/
def spanB (l : List Fl) : ByteArray × ByteArray :=
  ((match l with | [] => ⟨#[]⟩ | f :: t => t.foldl (fun a g => mnT a g.fst) f.fst), l.foldl (fun a g => mxT a g.lst) ⟨#[]⟩)
theorem spanB_step {l : List Fl} {j : Nat} {f : Fl} (hf : l[j]? = some f) : spanB (l.take (j + 1)) = (if j = 0 then f.fst else mnT (spanB (l.take j)).1 f.fst, mxT (spanB (l.take j)).2 f.lst) := by
  have hT : l.take (j + 1) = l.take j ++ [f] := by rw [List.take_add_one, hf]; rfl
  rw [hT]
  unfold spanB
  cases l with
  | nil => simp at hf
  | cons g t =>
    cases j with
    | zero => simp at hf; subst hf; simp
    | succ k => simp [List.foldl_append]
set_option maxRecDepth 100000 in
set_option maxHeartbeats 8000000 in
theorem span_any {B : Nat} {ao : Option Addr} {c : Nat} {l : List Fl} {w : World} (h : FlAt B ao l w) (hB : B ≤ w.heap.size) (hc : l.length ≤ c) (hl : l.length ≤ 200) :
    Calls Try.prog 27 #[.slice ao l.length c] w fun e w' => e = .returned (.tuple #[.string (spanB l).1, .string (spanB l).2]) ∧ Below w.heap.size w w' := by
  obtain ⟨n, hn⟩ : ∃ n, n = l.length := ⟨_, rfl⟩
  have HN := Lib.hid hn
  rw [← hn] at hc hl ⊢
  have HS : Hid (∀ W, Below w.heap.size w W → FlAt B ao l W) := Lib.hid fun W hW => h.under (hW.mono hB)
  clear hn h
  go_enter Try.func27, Try.ntmps27
  go_upto_region 3 with fail
  go_loopw [4, 5, 10] (fun x y i wr => ∃ (j : Nat) (s t : ByteArray), j ≤ n ∧ i = .int .i64 j ∧ x = .string s ∧ y = .string t ∧ Hid (spanB (l.take j) = (s, t)) ∧ Hid (Below w.heap.size w wr)) (fun _ _ i _ => n - (intOf i).toNat)
  case atStart => exact ⟨0, _, _, by omega, rfl, rfl, rfl, Lib.hid rfl, Lib.hid (Below.refl _ _)⟩
  case round =>
    obtain ⟨j, s, t, hj, rfl, rfl, rfl, HE, HB⟩ := hrel
    by_cases hlt : j < n
    · have hpos : 0 < l.length := by rw [← HN.out]; omega
      obtain ⟨a, rfl⟩ := (HS.out wr HB.out).there hpos
      obtain ⟨f, hf⟩ : ∃ f, l[j]? = some f := ⟨_, List.getElem?_eq_getElem (by rw [← HN.out]; exact hlt)⟩
      obtain ⟨c0, c1, c2, c3, c4, c5⟩ := ((HS.out wr HB.out).cells a rfl hpos).2 j f hf
      have HT := Lib.hid (spanB_step hf)
      have HNW := Lib.hid (six_cells (heap_alloc_new wr (.cells #[.int .i64 f.num, .int .i64 f.lvl, .string f.fst, .string f.lst, .int .i64 f.cnt, .int .i64 f.sz] 60)))
      have HB1 := Lib.hid (HB.out.alloc HB.out.size (.cells #[.int .i64 f.num, .int .i64 f.lvl, .string f.fst, .string f.lst, .int .i64 f.cnt, .int .i64 f.sz] 60))
      clear hpos hf
      obtain ⟨fn, fv, ff, fe, fc, fz⟩ := f
      dsimp only at c0 c1 c2 c3 c4 c5 HNW HB1 HT
      go_upto_region 5 with fail
      refine wp_letter (fun W => Below w.heap.size w W ∧ W.cell? ⟨wr.heap.size, 0, none⟩ = some (.int .i64 fn) ∧ W.cell? ⟨wr.heap.size, 1, none⟩ = some (.int .i64 fv) ∧ W.cell? ⟨wr.heap.size, 2, none⟩ = some (.string ff) ∧ W.cell? ⟨wr.heap.size, 3, none⟩ = some (.string fe) ∧ W.cell? ⟨wr.heap.size, 4, none⟩ = some (.int .i64 fc) ∧ W.cell? ⟨wr.heap.size, 5, none⟩ = some (.int .i64 fz)) ⟨HB1.out, HNW.out⟩ ?_
      rintro w2 ⟨hb2, e0, e1, e2, e3, e4, e5⟩
      have HB2 := Lib.hid hb2
      clear hb2 HNW HB1 HB c0 c1 c2 c3 c4 c5
      rw [HE.out] at HT
      have hj1 : j + 1 ≤ n := hlt
      cases h2 : Op.bytesLess t.toList fe.toList
      · have hm2 := run_max_no t fe h2
        by_cases hz : j = 0
        · subst hz
          have HF : Hid (spanB (l.take (0 + 1)) = (ff, t)) := Lib.hid (by rw [HT.out]; simp [mxT, h2])
          go_wp2_with fail
          go_roundw
          case rel => exact ⟨0 + 1, _, _, hj1, by go_num, rfl, rfl, HF, HB2⟩
          case measure => simp [intOf]; omega
        · have hz2 : ¬ (j : Int) = 0 := by omega
          cases h1 : Op.bytesLess ff.toList s.toList
          · have HF : Hid (spanB (l.take (j + 1)) = (s, t)) := Lib.hid (by rw [HT.out]; simp [mxT, mnT, h1, h2, hz])
            go_wp2_with fail
            go_roundw
            case rel => exact ⟨j + 1, _, _, hj1, by go_num, rfl, rfl, HF, HB2⟩
            case measure => simp [intOf]; omega
          · have HF : Hid (spanB (l.take (j + 1)) = (ff, t)) := Lib.hid (by rw [HT.out]; simp [mxT, mnT, h1, h2, hz])
            go_wp2_with fail
            go_roundw
            case rel => exact ⟨j + 1, _, _, hj1, by go_num, rfl, rfl, HF, HB2⟩
            case measure => simp [intOf]; omega
      · have hm2 := run_max_yes t fe h2
        by_cases hz : j = 0
        · subst hz
          have HF : Hid (spanB (l.take (0 + 1)) = (ff, fe)) := Lib.hid (by rw [HT.out]; simp [mxT, h2])
          go_wp2_with fail
          go_roundw
          case rel => exact ⟨0 + 1, _, _, hj1, by go_num, rfl, rfl, HF, HB2⟩
          case measure => simp [intOf]; omega
        · have hz2 : ¬ (j : Int) = 0 := by omega
          cases h1 : Op.bytesLess ff.toList s.toList
          · have HF : Hid (spanB (l.take (j + 1)) = (s, fe)) := Lib.hid (by rw [HT.out]; simp [mxT, mnT, h1, h2, hz])
            go_wp2_with fail
            go_roundw
            case rel => exact ⟨j + 1, _, _, hj1, by go_num, rfl, rfl, HF, HB2⟩
            case measure => simp [intOf]; omega
          · have HF : Hid (spanB (l.take (j + 1)) = (ff, fe)) := Lib.hid (by rw [HT.out]; simp [mxT, mnT, h1, h2, hz])
            go_wp2_with fail
            go_roundw
            case rel => exact ⟨j + 1, _, _, hj1, by go_num, rfl, rfl, HF, HB2⟩
            case measure => simp [intOf]; omega
    · obtain rfl : j = n := by omega
      have hE := HE.out
      rw [List.take_of_length_le (by rw [HN.out]; exact Nat.le_refl _)] at hE
      have HE2 := Lib.hid hE
      clear hE
      go_wp2_with fail
      go_ret2
      exact ⟨by rw [HE2.out]; rfl, HB.out⟩
set_option maxRecDepth 100000 in
set_option maxHeartbeats 8000000 in
theorem bottom_any {B : Nat} {lg nx sq : Int} {bo : Option Addr} {c : Nat} {L : List Fl} {w : World} (h : FlAt B bo L w) (hB : B ≤ w.heap.size) (hc : L.length ≤ c) (hl : L.length ≤ 39) (lv : Int) (key : ByteArray) :
    Calls Try.prog 19 #[.agg #[.int .i64 lg, .int .i64 nx, .int .i64 sq, .slice bo L.length c], .int .i64 lv, .string key] w fun e w' => e = .returned (.bool ((L.filter (hoB key)).all fun f => decide (f.lvl ≤ lv))) ∧ Below w.heap.size w w' := by
  have CL : Hid (∀ W, Below w.heap.size w W → Calls Try.prog 18 #[.agg #[.int .i64 lg, .int .i64 nx, .int .i64 sq, .slice bo L.length c], .string key] W fun e w' => Got W (L.filter (hoB key)) e w' ∧ Below W.heap.size W w') := Lib.hid fun W hW => holding_any (h.under (hW.mono hB)) (by have := hW.size; omega) hc hl key
  obtain ⟨l, hl0⟩ : ∃ l, l = L.filter (hoB key) := ⟨_, rfl⟩
  obtain ⟨n, hn⟩ : ∃ n, n = l.length := ⟨_, rfl⟩
  have hn39 : n ≤ 39 := by rw [hn, hl0]; exact Nat.le_trans (List.length_filter_le _ _) hl
  have HN := Lib.hid hn
  rw [← hl0] at CL ⊢
  obtain ⟨k, hk⟩ : ∃ k, k = L.length := ⟨_, rfl⟩
  rw [← hk] at CL ⊢
  clear h hB hc hl hl0 hn hk
  obtain ⟨v0, v1, v2, v3⟩ := four_cells (heap_alloc_new w (.cells #[.int .i64 lg, .int .i64 nx, .int .i64 sq, .slice bo k c] 34))
  have HNV := Lib.hid (And.intro v0 (And.intro v1 (And.intro v2 v3)))
  have HBX := Lib.hid ((Below.refl w.heap.size w).alloc (Nat.le_refl _) (.cells #[.int .i64 lg, .int .i64 nx, .int .i64 sq, .slice bo k c] 34))
  go_enter Try.func19, Try.ntmps19
  go_upto_region 1 with fail
  clear v0 v1 v2 v3
  refine wp_letter (fun W => Below w.heap.size w W ∧ W.cell? ⟨w.heap.size, 0, none⟩ = some (.int .i64 lg) ∧ W.cell? ⟨w.heap.size, 1, none⟩ = some (.int .i64 nx) ∧ W.cell? ⟨w.heap.size, 2, none⟩ = some (.int .i64 sq) ∧ W.cell? ⟨w.heap.size, 3, none⟩ = some (.slice bo k c)) ⟨HBX.out, HNV.out⟩ ?_
  clear HBX HNV
  rintro wb ⟨hb, v0, v1, v2, v3⟩
  have HBB := Lib.hid hb
  clear hb
  go_upto_region 2 with (go_at_call 18; (with_reducible refine (CL.out _ HBB.out).mono ?_); rintro e w0 ⟨⟨ao, cc, rfl, hcc, hfl, hne⟩, hb⟩; have HFL := Lib.hid hfl; have HB0 := Lib.hid (below_mono HBB.out hb (Nat.le_refl _)); have HN0 := HN; rw [← HN0.out]; rw [← HN0.out] at hcc; clear hfl hne hb v0 v1 v2 v3 HBB CL)
  have HS : Hid (∀ W, Below w0.heap.size w0 W → FlAt w0.heap.size ao l W) := Lib.hid fun W hW => HFL.out.under hW
  clear HFL HN0
  go_loopw [13] (fun i wr => ∃ j : Nat, j ≤ n ∧ i = .int .i64 j ∧ Hid ((l.take j).all (fun f => decide (f.lvl ≤ lv)) = true) ∧ Hid (Below w0.heap.size w0 wr)) (fun i _ => n - (intOf i).toNat)
  case atStart => exact ⟨0, by omega, rfl, Lib.hid (by simp), Lib.hid (Below.refl _ _)⟩
  case round =>
    obtain ⟨j, hj, rfl, HA, HB⟩ := hrel
    by_cases hlt : j < n
    · have hpos : 0 < l.length := by rw [← HN.out]; omega
      obtain ⟨a, rfl⟩ := (HS.out wr HB.out).there hpos
      obtain ⟨f, hf⟩ : ∃ f, l[j]? = some f := ⟨_, List.getElem?_eq_getElem (by rw [← HN.out]; exact hlt)⟩
      obtain ⟨c0, c1, c2, c3, c4, c5⟩ := ((HS.out wr HB.out).cells a rfl hpos).2 j f hf
      have HF := Lib.hid hf
      have HNW := Lib.hid (six_cells (heap_alloc_new wr (.cells #[.int .i64 f.num, .int .i64 f.lvl, .string f.fst, .string f.lst, .int .i64 f.cnt, .int .i64 f.sz] 60)))
      have HB1 := Lib.hid (HB.out.alloc HB.out.size (.cells #[.int .i64 f.num, .int .i64 f.lvl, .string f.fst, .string f.lst, .int .i64 f.cnt, .int .i64 f.sz] 60))
      clear hpos hf
      obtain ⟨fn, fv, ff, fe, fc, fz⟩ := f
      dsimp only at c0 c1 c2 c3 c4 c5 HNW HB1
      go_upto_region 4 with fail
      refine wp_letter (fun W => Below w0.heap.size w0 W ∧ W.cell? ⟨wr.heap.size, 0, none⟩ = some (.int .i64 fn) ∧ W.cell? ⟨wr.heap.size, 1, none⟩ = some (.int .i64 fv)) ⟨HB1.out, HNW.out.1, HNW.out.2.1⟩ ?_
      rintro w2 ⟨hb2, e0, e1⟩
      have HB2 := Lib.hid hb2
      clear hb2 HNW HB1 HB c0 c1 c2 c3 c4 c5
      have hj1 : j + 1 ≤ n := hlt
      by_cases hv : lv < fv
      · have HR : Hid (l.all (fun f => decide (f.lvl ≤ lv)) = false) := Lib.hid (by
          rw [List.all_eq_false]
          exact ⟨_, List.mem_of_getElem? HF.out, by simpa using hv⟩)
        go_wp2_with fail
        go_ret
        exact ⟨by rw [HR.out]; rfl, below_mono HB0.out HB2.out (Nat.le_refl _)⟩
      · have HA2 : Hid ((l.take (j + 1)).all (fun f => decide (f.lvl ≤ lv)) = true) := Lib.hid (by
          rw [List.take_add_one, HF.out, List.all_append, HA.out]
          have : fv ≤ lv := by omega
          simp [this])
        go_wp2_with fail
        go_roundw
        case rel => exact ⟨j + 1, hj1, by go_num, HA2, HB2⟩
        case measure => simp [intOf]; omega
    · obtain rfl : j = n := by omega
      have hE := HA.out
      rw [List.take_of_length_le (by rw [HN.out]; exact Nat.le_refl _)] at hE
      have HE2 := Lib.hid hE
      clear hE
      go_wp2_with fail
      go_ret
      exact ⟨by rw [HE2.out]; rfl, below_mono HB0.out HB.out (Nat.le_refl _)⟩
end Go.Proofs.Ythodlkacfcnhnaa
