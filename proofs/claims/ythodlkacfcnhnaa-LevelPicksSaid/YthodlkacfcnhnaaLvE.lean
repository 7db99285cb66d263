/- Layer 15: the files of a level. Conditions: those written at each theorem. -/
import Derived.Test.YthodlkacfcnhnaaLvD
namespace Go.Proofs.Ythodlkacfcnhnaa
open Go.RowKit Go.Sort
set_option linter.unusedVariables false
set_option linter.unusedSimpArgs false
def byLvl (n : Int) (f : Fl) : Bool := decide (f.lvl = n)
theorem take_filter_yes {l : List Fl} {j : Nat} {f : Fl} {p : Fl → Bool} (hf : l[j]? = some f) (hp : p f = true) : (l.take (j + 1)).filter p = (l.take j).filter p ++ [f] := by
  rw [List.take_add_one, hf, List.filter_append]
  simp [hp]
theorem take_filter_no {l : List Fl} {j : Nat} {f : Fl} {p : Fl → Bool} (hf : l[j]? = some f) (hp : p f = false) : (l.take (j + 1)).filter p = (l.take j).filter p := by
  rw [List.take_add_one, hf, List.filter_append]
  simp [hp]
theorem Srt.filter {l : List Fl} (h : Srt l) (p : Fl → Bool) : Srt (l.filter p) := by
  have h1 : l.Pairwise LeF := by
    rw [List.pairwise_iff_getElem]
    intro i j hi hj hij
    exact h i j _ _ hij (List.getElem?_eq_getElem hi) (List.getElem?_eq_getElem hj)
  have h2 := h1.filter p
  rw [List.pairwise_iff_getElem] at h2
  intro i j f g hij hf hg
  obtain ⟨hi, rfl⟩ := List.getElem?_eq_some_iff.1 hf
  obtain ⟨hj, rfl⟩ := List.getElem?_eq_some_iff.1 hg
  exact h2 i j hi hj hij
/-- What a slice of files that the call made is. -/
def Got (w : World) (l : List Fl) (e : Ending) (w' : World) : Prop :=
  ∃ va vc, e = .returned (.slice va l.length vc) ∧ l.length ≤ vc ∧ FlAt w'.heap.size va l w' ∧ ∀ a, va = some a → w.heap.size ≤ a.block
theorem got_row {w0 w : World} {B T n c : Nat} {va : Option Addr} {l : List Fl} (h : w.ownsRow B T 6 (.slice va n c) n (fls l)) (hn : n = l.length) (hB : w0.heap.size ≤ B) : n ≤ c ∧ FlAt w.heap.size va l w ∧ ∀ a, va = some a → w0.heap.size ≤ a.block := by
  refine ⟨?_, FlAt.row h hn, fun a ha => Nat.le_trans hB (h.lt a.block (by rw [ha]; rfl)).1⟩
  rcases h.2 with ⟨hv, h0⟩ | ⟨b, cp, cur, hv, hb, hg, hc, _, hsz, htk⟩
  · omega
  · injection hv with e1 _ e3
    omega
theorem four_cells {w : World} {k : Nat} {c0 c1 c2 c3 : Value} {t : TypeId} (h : w.heap[k]? = some (.cells #[c0, c1, c2, c3] t (0, 0))) : w.cell? ⟨k, 0, none⟩ = some c0 ∧ w.cell? ⟨k, 1, none⟩ = some c1 ∧ w.cell? ⟨k, 2, none⟩ = some c2 ∧ w.cell? ⟨k, 3, none⟩ = some c3 :=
  ⟨cell_blk h 0, cell_blk h 1, cell_blk h 2, cell_blk h 3⟩
set_option maxRecDepth 100000 in
set_option maxHeartbeats 4000000 in
theorem level_any {B : Nat} {lg nx sq : Int} {ao : Option Addr} {c : Nat} {l : List Fl} {w : World} (h : FlAt B ao l w) (hB : B ≤ w.heap.size) (hc : l.length ≤ c) (hl : l.length ≤ 39) (hs : Srt l) (lv : Int) :
    Calls Try.prog 31 #[.agg #[.int .i64 lg, .int .i64 nx, .int .i64 sq, .slice ao l.length c], .int .i64 lv] w fun e w' => Got w (l.filter (byLvl lv)) e w' ∧ Below w.heap.size w w' := by
  obtain ⟨n, hn⟩ : ∃ n, n = l.length := ⟨_, rfl⟩
  have HN := Lib.hid hn
  rw [← hn] at hc hl ⊢
  have HS : Hid (∀ W, Below w.heap.size w W → FlAt B ao l W) := Lib.hid fun W hW => h.under (hW.mono hB)
  have HZ := Lib.hid hl
  have HSR := Lib.hid (hs.filter (byLvl lv))
  have HLEN : Hid (∀ j, ((l.take j).filter (byLvl lv)).length ≤ j) := Lib.hid fun j => Nat.le_trans (List.length_filter_le _ _) (by rw [List.length_take]; omega)
  obtain ⟨v0, v1, v2, v3⟩ := four_cells (heap_alloc_new w (.cells #[.int .i64 lg, .int .i64 nx, .int .i64 sq, .slice ao n c] 34))
  have HB0 := Lib.hid ((Below.refl w.heap.size w).alloc (Nat.le_refl _) (.cells #[.int .i64 lg, .int .i64 nx, .int .i64 sq, .slice ao n c] 34))
  clear hn h hs
  go_enter Try.func31, Try.ntmps31
  go_upto_region 3 with fail
  clear v0 v1 v2 v3
  refine wp_letter (fun W => Below w.heap.size w W) HB0.out ?_
  clear HB0
  intro w0 hw0
  have HB0 := Lib.hid hw0
  clear hw0
  go_loopw [5, 11] (fun v i wr => ∃ j : Nat, j ≤ n ∧ i = .int .i64 j ∧ Hid (wr.ownsRow w0.heap.size 60 6 v ((l.take j).filter (byLvl lv)).length (fls ((l.take j).filter (byLvl lv)))) ∧ Hid (Below w0.heap.size w0 wr)) (fun _ i _ => n - (intOf i).toNat)
  case atStart => exact ⟨0, by omega, rfl, Lib.hid (World.ownsRow_nil w0 w0.heap.size 60 6), Lib.hid (Below.refl _ _)⟩
  case round =>
    obtain ⟨j, hj, rfl, HR, HB⟩ := hrel
    obtain ⟨va, vc, rfl⟩ := row_form HR.out
    by_cases hlt : j < n
    · have hpos : 0 < l.length := by rw [← HN.out]; omega
      have HBW := Lib.hid (below_mono HB0.out HB.out (Nat.le_refl _))
      obtain ⟨a, rfl⟩ := (HS.out wr HBW.out).there hpos
      obtain ⟨f, hf⟩ : ∃ f, l[j]? = some f := ⟨_, List.getElem?_eq_getElem (by rw [← HN.out]; exact hlt)⟩
      obtain ⟨c0, c1, c2, c3, c4, c5⟩ := ((HS.out wr HBW.out).cells a rfl hpos).2 j f hf
      have HF := Lib.hid hf
      have HNW := Lib.hid (six_cells (heap_alloc_new wr (.cells #[.int .i64 f.num, .int .i64 f.lvl, .string f.fst, .string f.lst, .int .i64 f.cnt, .int .i64 f.sz] 60)))
      have HB1 := Lib.hid (HB.out.alloc HB.out.size (.cells #[.int .i64 f.num, .int .i64 f.lvl, .string f.fst, .string f.lst, .int .i64 f.cnt, .int .i64 f.sz] 60))
      have HR1 := Lib.hid (HR.out.alloc (.cells #[.int .i64 f.num, .int .i64 f.lvl, .string f.fst, .string f.lst, .int .i64 f.cnt, .int .i64 f.sz] 60))
      clear hpos hf HBW
      obtain ⟨fn, fv, ff, fe, fc, fz⟩ := f
      dsimp only at c0 c1 c2 c3 c4 c5 HNW HB1 HR1
      go_upto_region 5 with fail
      refine wp_letter (fun W => (Below w0.heap.size w0 W ∧ W.ownsRow w0.heap.size 60 6 (.slice va ((l.take j).filter (byLvl lv)).length vc) ((l.take j).filter (byLvl lv)).length (fls ((l.take j).filter (byLvl lv)))) ∧ W.cell? ⟨wr.heap.size, 0, none⟩ = some (.int .i64 fn) ∧ W.cell? ⟨wr.heap.size, 1, none⟩ = some (.int .i64 fv) ∧ W.cell? ⟨wr.heap.size, 2, none⟩ = some (.string ff) ∧ W.cell? ⟨wr.heap.size, 3, none⟩ = some (.string fe) ∧ W.cell? ⟨wr.heap.size, 4, none⟩ = some (.int .i64 fc) ∧ W.cell? ⟨wr.heap.size, 5, none⟩ = some (.int .i64 fz)) ⟨⟨HB1.out, HR1.out⟩, HNW.out⟩ ?_
      rintro w2 ⟨⟨hb2, hr2⟩, e0, e1, e2, e3, e4, e5⟩
      have HB2 := Lib.hid hb2
      have HR2 := Lib.hid hr2
      clear hb2 hr2 HNW HB1 HR1 HR HB c0 c1 c2 c3 c4 c5
      by_cases hp : fv = lv
      · subst hp
        have HT := Lib.hid (take_filter_yes (p := byLvl fv) HF.out (by simp [byLvl]))
        have H6 := Lib.hid (six_cells (heap_alloc_new w2 (.cells #[.int .i64 fn, .int .i64 fv, .string ff, .string fe, .int .i64 fc, .int .i64 fz] 60)))
        have HLE := Lib.hid (HLEN.out j)
        obtain ⟨m, hm⟩ : ∃ m, m = ((l.take j).filter (byLvl fv)).length := ⟨_, rfl⟩
        have HM := Lib.hid hm
        rw [← hm] at HR2 HLE
        rw [← hm]
        clear hm
        go_upto_region 7 with (at_builtin; (refine wpList_appFl rfl _ _ rfl w0.heap.size _ m ((l.take j).filter (byLvl fv)) ⟨fn, fv, ff, fe, fc, fz⟩ rfl (HR2.out.alloc _) w2.heap.size rfl H6.out (by have := HZ.out; have := HLE.out; omega) (by have := HB2.out.size; simp; omega) ?_; intro v' w3 hown3 hgr3))
        have HB3 : Hid (Below w0.heap.size w0 w3) := Lib.hid ((HB2.out.alloc HB2.out.size (.cells #[.int .i64 fn, .int .i64 fv, .string ff, .string fe, .int .i64 fc, .int .i64 fz] 60)).grown hgr3 (by have := HB2.out.size; simp; omega) (fun j hj => (HR2.out.lt j hj).1))
        have HR3 := Lib.hid hown3
        clear hown3 hgr3 e0 e1 e2 e3 e4 e5 H6
        go_wp2_with fail
        go_roundw
        case rel => exact ⟨j + 1, by omega, by go_num, Lib.hid (by rw [HT.out, List.length_append, ← HM.out]; exact HR3.out), HB3⟩
        case measure => simp [intOf]; omega
      · have HT := Lib.hid (take_filter_no (p := byLvl lv) HF.out (by simp [byLvl, hp]))
        go_wp2_with fail
        go_roundw
        case rel => exact ⟨j + 1, by omega, by go_num, Lib.hid (by rw [HT.out]; exact HR2.out), HB2⟩
        case measure => simp [intOf]; omega
    · obtain rfl : j = n := by omega
      have hrow := HR.out
      rw [List.take_of_length_le (by rw [HN.out]; exact Nat.le_refl _)] at hrow
      rw [List.take_of_length_le (by rw [HN.out]; exact Nat.le_refl _)]
      have HL := Lib.hid (got_row (w0 := w) hrow rfl HB0.out.size)
      have HCS := Lib.hid (sort_sorted HL.out.2.1 (Nat.le_refl _) HL.out.1 (Nat.le_trans (List.length_filter_le _ _) (by rw [← HN.out]; exact HZ.out)) HSR.out)
      have HBF := Lib.hid (below_mono HB0.out HB.out (Nat.le_refl _))
      clear hrow
      go_wp2_with (go_at_call 48; (with_reducible refine HCS.out.mono ?_); rintro e w2 ⟨rfl, hb⟩; have HB2 := Lib.hid hb; clear hb)
      go_ret
      exact ⟨⟨va, vc, rfl, HL.out.1, (HL.out.2.1.under HB2.out).more HB2.out.size, HL.out.2.2⟩, below_mono HBF.out HB2.out (Nat.le_refl _)⟩
end Go.Proofs.Ythodlkacfcnhnaa
