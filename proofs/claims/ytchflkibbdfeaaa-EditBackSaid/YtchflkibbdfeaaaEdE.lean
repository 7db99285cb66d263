/- What edits can be encoded: the model's answer, edit.sound, the document's Laid. Conditions: those written at each theorem. -/
import Derived.Test.YtchflkibbdfeaaaEdD
namespace Go.Proofs.Ytchflkibbdfeaaa
open Go.RowKit Go.Sort
set_option linter.unusedVariables false
set_option linter.unusedSimpArgs false
/-- A file that can be encoded. -/
def OkF (f : Fl) : Prop := 0 ≤ f.num ∧ 0 ≤ f.lvl ∧ 0 ≤ f.cnt ∧ 0 ≤ f.sz ∧ (f.fst.size : Int) ≤ 80 ∧ (f.lst.size : Int) ≤ 80
/-- An edit that can be encoded. -/
def Snd (lg nx sq : Int) (ds : List Int) (l : List Fl) : Prop := -1 ≤ lg ∧ -1 ≤ nx ∧ -1 ≤ sq ∧ ds.length ≤ 100 ∧ l.length ≤ 100 ∧ (∀ d ∈ ds, 0 ≤ d) ∧ ∀ f ∈ l, OkF f
open Classical in
noncomputable def sndB (lg nx sq : Int) (ds : List Int) (l : List Fl) : Bool := decide (Snd lg nx sq ds l)
theorem sndB_yes {lg nx sq : Int} {ds : List Int} {l : List Fl} (h : Snd lg nx sq ds l) : sndB lg nx sq ds l = true := by unfold sndB; simpa using h
theorem sndB_no {lg nx sq : Int} {ds : List Int} {l : List Fl} (h : ¬ Snd lg nx sq ds l) : sndB lg nx sq ds l = false := by unfold sndB; simpa using h
theorem mem_take_succ {α : Type} {l : List α} {j : Nat} {x : α} (hx : l[j]? = some x) {p : α → Prop} (h : ∀ y ∈ l.take j, p y) (h2 : p x) : ∀ y ∈ l.take (j + 1), p y := by
  intro y hy
  rw [List.take_add_one, hx] at hy
  simp at hy
  rcases hy with hy | rfl
  · exact h y hy
  · exact h2
set_option maxRecDepth 100000 in
set_option maxHeartbeats 4000000 in
theorem sound_any {lg nx sq : Int} {dd : Option Addr} {dc : Nat} {ds : List Int} {B C : Nat} {ao : Option Addr} {c : Nat} {l : List Fl} {w : World} (hd : VAt B dd (ds.map (Value.int .i64)) w) (hdc : ds.length ≤ dc) (hdm : dc ≤ maxLen) (h : FlAt C ao l w) (hB : B ≤ w.heap.size) (hC : C ≤ w.heap.size) (hc : l.length ≤ c) (hl : l.length ≤ 101) :
    Calls Try.prog 21 #[.agg #[.int .i64 lg, .int .i64 nx, .int .i64 sq, .slice dd ds.length dc, .slice ao l.length c]] w fun e w' => e = .returned (.bool (sndB lg nx sq ds l)) ∧ Below w.heap.size w w' := by
  obtain ⟨b, hb⟩ : ∃ b, b = sndB lg nx sq ds l := ⟨_, rfl⟩
  have HT : Hid (Snd lg nx sq ds l → b = true) := Lib.hid fun h => hb.trans (sndB_yes h)
  have HF : Hid (¬ Snd lg nx sq ds l → b = false) := Lib.hid fun h => hb.trans (sndB_no h)
  rw [← hb]
  clear hb
  have HS : Hid (∀ W, Below w.heap.size w W → FlAt C ao l W) := Lib.hid fun W hW => h.under (hW.mono hC)
  have HD : Hid (∀ W, Below w.heap.size w W → VAt B dd (ds.map (Value.int .i64)) W) := Lib.hid fun W hW => hd.under (hW.mono hB)
  obtain ⟨w1, hw1⟩ : ∃ x, x = w.alloc (.cells #[.int .i64 lg, .int .i64 nx, .int .i64 sq, .slice dd ds.length dc, .slice ao l.length c] 33) := ⟨_, rfl⟩
  have hb1 : Below w.heap.size w w1 := by rw [hw1]; exact (Below.refl _ _).alloc (Nat.le_refl _) _
  have hx : w1.heap[w.heap.size]? = some (.cells #[.int .i64 lg, .int .i64 nx, .int .i64 sq, .slice dd ds.length dc, .slice ao l.length c] 33 (0, 0)) := by
    rw [hw1]; exact heap_alloc_new w _
  have HB1 := Lib.hid hb1
  have HW1 := Lib.hid hw1
  obtain ⟨dn, hdn⟩ : ∃ n, n = ds.length := ⟨_, rfl⟩
  obtain ⟨n, hn⟩ : ∃ n, n = l.length := ⟨_, rfl⟩
  have HDN := Lib.hid hdn
  have HN := Lib.hid hn
  rw [← hdn, ← hn] at hx HW1
  rw [← hdn] at hdc ⊢
  rw [← hn] at hc hl ⊢
  have hdm2 : dn < 9223372036854775808 := by unfold maxLen at hdm; omega
  clear hb1 hw1 h hd hn hdn hdm
  obtain ⟨v0, v1, v2, v3, v4⟩ := five_cells hx
  clear hx
  go_enter Try.func21, Try.ntmps21
  go_upto_region 1 with fail
  refine wp_letter (fun W => w1 = W) HW1.out ?_
  rintro _ rfl
  clear HW1
  by_cases hh : -1 ≤ lg ∧ -1 ≤ nx ∧ -1 ≤ sq ∧ (dn : Int) ≤ 100 ∧ (n : Int) ≤ 100
  · obtain ⟨q1, q2, q3, q4, q5⟩ := hh
    go_upto_region 4 with fail
    go_loopw [35] (fun i wr => ∃ j : Nat, j ≤ dn ∧ i = .int .i64 j ∧ w1 = wr ∧ Hid (∀ d ∈ ds.take j, 0 ≤ d)) (fun i _ => dn - (intOf i).toNat)
    case atStart => exact ⟨0, by omega, rfl, rfl, Lib.hid (by simp)⟩
    case round =>
      obtain ⟨j, hj, rfl, rfl, HALL⟩ := hrel
      by_cases hlt : j < dn
      · have hpos : 0 < (ds.map (Value.int .i64)).length := by rw [List.length_map, ← HDN.out]; omega
        obtain ⟨a, rfl⟩ := (HD.out w1 HB1.out).there hpos
        obtain ⟨d, hdj⟩ : ∃ d, ds[j]? = some d := ⟨_, List.getElem?_eq_getElem (by rw [← HDN.out]; exact hlt)⟩
        have c0 := ((HD.out w1 HB1.out).cells a rfl hpos).2 j (.int .i64 d) (by rw [List.getElem?_map, hdj]; rfl)
        have HDJ := Lib.hid hdj
        clear hpos hdj
        by_cases hd0 : 0 ≤ d
        · go_wp2_with fail
          go_roundw
          case rel => exact ⟨j + 1, by omega, by go_num, trivial, Lib.hid (mem_take_succ HDJ.out HALL.out hd0)⟩
          case measure => simp [intOf]; omega
        · obtain rfl : b = false := HF.out fun hS => hd0 (hS.2.2.2.2.2.1 d (List.mem_of_getElem? HDJ.out))
          have hd1 : d < 0 := by omega
          clear hd0
          go_wp2_with fail
          go_ret
          exact ⟨rfl, HB1.out⟩
      · obtain rfl : j = dn := by omega
        have HAD : Hid (∀ d ∈ ds, 0 ≤ d) := Lib.hid (by have := HALL.out; rw [List.take_of_length_le (by rw [HDN.out]; exact Nat.le_refl _)] at this; exact this)
        clear HALL
        go_upto_region 10 with fail
        go_loopw [45] (fun i wr => ∃ j : Nat, j ≤ n ∧ i = .int .i64 j ∧ Hid (Below w.heap.size w wr) ∧ Hid (∀ f ∈ l.take j, OkF f)) (fun i _ => n - (intOf i).toNat)
        case atStart => exact ⟨0, by omega, rfl, HB1, Lib.hid (by simp)⟩
        case round =>
          clear v0 v1 v2 v3 v4
          obtain ⟨k, hk, rfl, HBR, HALL⟩ := hrel
          by_cases hlt : k < n
          · have hpos : 0 < l.length := by rw [← HN.out]; omega
            obtain ⟨a, rfl⟩ := (HS.out wr HBR.out).there hpos
            obtain ⟨f, hf⟩ : ∃ f, l[k]? = some f := ⟨_, List.getElem?_eq_getElem (by rw [← HN.out]; exact hlt)⟩
            obtain ⟨c0, c1, c2, c3, c4, c5⟩ := ((HS.out wr HBR.out).cells a rfl hpos).2 k f hf
            have HFK := Lib.hid hf
            have hb2 : Below w.heap.size w (wr.alloc (.cells #[.int .i64 f.num, .int .i64 f.lvl, .string f.fst, .string f.lst, .int .i64 f.cnt, .int .i64 f.sz] 47)) := HBR.out.alloc (by have := HBR.out.size; omega) _
            have HB2 := Lib.hid hb2
            have HNW := Lib.hid (six_cells (heap_alloc_new wr (.cells #[.int .i64 f.num, .int .i64 f.lvl, .string f.fst, .string f.lst, .int .i64 f.cnt, .int .i64 f.sz] 47)))
            clear hpos hf hb2
            obtain ⟨fn, fv, ff, fl, fc, fs⟩ := f
            dsimp only at c0 c1 c2 c3 c4 c5 HB2 HNW
            go_upto_region 12 with fail
            refine wp_letter (fun W => Below w.heap.size w W ∧ W.cell? ⟨wr.heap.size, 0, none⟩ = some (.int .i64 fn) ∧ W.cell? ⟨wr.heap.size, 1, none⟩ = some (.int .i64 fv) ∧ W.cell? ⟨wr.heap.size, 2, none⟩ = some (.string ff) ∧ W.cell? ⟨wr.heap.size, 3, none⟩ = some (.string fl) ∧ W.cell? ⟨wr.heap.size, 4, none⟩ = some (.int .i64 fc) ∧ W.cell? ⟨wr.heap.size, 5, none⟩ = some (.int .i64 fs)) ⟨HB2.out, HNW.out⟩ ?_
            rintro w2 ⟨hb2, e0, e1, e2, e3, e4, e5⟩
            have HBW := Lib.hid hb2
            clear hb2 HB2 HNW c0 c1 c2 c3 c4 c5
            by_cases hok : 0 ≤ fn ∧ 0 ≤ fv ∧ 0 ≤ fc ∧ 0 ≤ fs ∧ (ff.size : Int) ≤ 80 ∧ (fl.size : Int) ≤ 80
            · have HOK : Hid (OkF ⟨fn, fv, ff, fl, fc, fs⟩) := Lib.hid hok
              obtain ⟨o1, o2, o3, o4, o5, o6⟩ := hok
              go_wp2_with fail
              go_roundw
              case rel => exact ⟨k + 1, by omega, by go_num, HBW, Lib.hid (mem_take_succ HFK.out HALL.out HOK.out)⟩
              case measure => simp [intOf]; omega
            · obtain rfl : b = false := HF.out fun hS => hok (hS.2.2.2.2.2.2 _ (List.mem_of_getElem? HFK.out))
              have hx : fn < 0 ∨ (0 ≤ fn ∧ fv < 0) ∨ (0 ≤ fn ∧ 0 ≤ fv ∧ fc < 0) ∨ (0 ≤ fn ∧ 0 ≤ fv ∧ 0 ≤ fc ∧ fs < 0) ∨ (0 ≤ fn ∧ 0 ≤ fv ∧ 0 ≤ fc ∧ 0 ≤ fs ∧ 80 < (ff.size : Int)) ∨ (0 ≤ fn ∧ 0 ≤ fv ∧ 0 ≤ fc ∧ 0 ≤ fs ∧ (ff.size : Int) ≤ 80 ∧ 80 < (fl.size : Int)) := by omega
              clear hok
              rcases hx with o1 | ⟨o1, o2⟩ | ⟨o1, o2, o3⟩ | ⟨o1, o2, o3, o4⟩ | ⟨o1, o2, o3, o4, o5⟩ | ⟨o1, o2, o3, o4, o5, o6⟩ <;> (
                go_wp2_with fail
                go_ret
                exact ⟨rfl, HBW.out⟩)
          · obtain rfl : k = n := by omega
            obtain rfl : b = true := HT.out ⟨q1, q2, q3, by rw [← HDN.out]; omega, by rw [← HN.out]; omega, HAD.out, by have := HALL.out; rw [List.take_of_length_le (by rw [HN.out]; exact Nat.le_refl _)] at this; exact this⟩
            go_wp2_with fail
            go_ret
            exact ⟨rfl, HBR.out⟩
  · obtain rfl : b = false := HF.out fun hS => hh ⟨hS.1, hS.2.1, hS.2.2.1, by have := hS.2.2.2.1; have := HDN.out; omega, by have := hS.2.2.2.2.1; have := HN.out; omega⟩
    have hx : lg < -1 ∨ (-1 ≤ lg ∧ nx < -1) ∨ (-1 ≤ lg ∧ -1 ≤ nx ∧ sq < -1) ∨ (-1 ≤ lg ∧ -1 ≤ nx ∧ -1 ≤ sq ∧ 100 < (dn : Int)) ∨ (-1 ≤ lg ∧ -1 ≤ nx ∧ -1 ≤ sq ∧ (dn : Int) ≤ 100 ∧ 100 < (n : Int)) := by omega
    clear hh
    rcases hx with q1 | ⟨q1, q2⟩ | ⟨q1, q2, q3⟩ | ⟨q1, q2, q3, q4⟩ | ⟨q1, q2, q3, q4, q5⟩ <;> (
      go_wp2_with fail
      go_ret
      exact ⟨rfl, HB1.out⟩)
set_option maxRecDepth 100000 in
set_option maxHeartbeats 4000000 in
theorem laid_any {lg nx sq : Int} {dd : Option Addr} {dc : Nat} {ds : List Int} {B C : Nat} {ao : Option Addr} {c : Nat} {l : List Fl} {w : World} (hd : VAt B dd (ds.map (Value.int .i64)) w) (hdc : ds.length ≤ dc) (hdm : dc ≤ maxLen) (h : FlAt C ao l w) (hB : B ≤ w.heap.size) (hC : C ≤ w.heap.size) (hc : l.length ≤ c) (hl : l.length ≤ 101) :
    Calls Try.prog 11 #[.agg #[.int .i64 lg, .int .i64 nx, .int .i64 sq, .slice dd ds.length dc, .slice ao l.length c]] w fun e w' => e = .returned (.bool (sndB lg nx sq ds l)) ∧ Below w.heap.size w w' := by
  obtain ⟨b, hb⟩ : ∃ b, b = sndB lg nx sq ds l := ⟨_, rfl⟩
  have HT : Hid (Snd lg nx sq ds l → b = true) := Lib.hid fun h => hb.trans (sndB_yes h)
  have HF : Hid (¬ Snd lg nx sq ds l → b = false) := Lib.hid fun h => hb.trans (sndB_no h)
  rw [← hb]
  clear hb
  have HS : Hid (∀ W, Below w.heap.size w W → FlAt C ao l W) := Lib.hid fun W hW => h.under (hW.mono hC)
  have HD : Hid (∀ W, Below w.heap.size w W → VAt B dd (ds.map (Value.int .i64)) W) := Lib.hid fun W hW => hd.under (hW.mono hB)
  obtain ⟨w1, hw1⟩ : ∃ x, x = w.alloc (.cells #[.int .i64 lg, .int .i64 nx, .int .i64 sq, .slice dd ds.length dc, .slice ao l.length c] 25) := ⟨_, rfl⟩
  have hb1 : Below w.heap.size w w1 := by rw [hw1]; exact (Below.refl _ _).alloc (Nat.le_refl _) _
  have hx : w1.heap[w.heap.size]? = some (.cells #[.int .i64 lg, .int .i64 nx, .int .i64 sq, .slice dd ds.length dc, .slice ao l.length c] 25 (0, 0)) := by
    rw [hw1]; exact heap_alloc_new w _
  have HB1 := Lib.hid hb1
  have HW1 := Lib.hid hw1
  obtain ⟨dn, hdn⟩ : ∃ n, n = ds.length := ⟨_, rfl⟩
  obtain ⟨n, hn⟩ : ∃ n, n = l.length := ⟨_, rfl⟩
  have HDN := Lib.hid hdn
  have HN := Lib.hid hn
  rw [← hdn, ← hn] at hx HW1
  rw [← hdn] at hdc ⊢
  rw [← hn] at hc hl ⊢
  have hdm2 : dn < 9223372036854775808 := by unfold maxLen at hdm; omega
  clear hb1 hw1 h hd hn hdn hdm
  have KX : Hid (∀ W, Below w1.heap.size w1 W → W.heap[w.heap.size]? = some (.cells #[.int .i64 lg, .int .i64 nx, .int .i64 sq, .slice dd dn dc, .slice ao n c] 25 (0, 0))) := Lib.hid fun W hW => (hW.block _ (lt_of_heap hx)).trans hx
  obtain ⟨v0, v1, v2, v3, v4⟩ := five_cells hx
  clear hx
  go_enter Try.func11, Try.ntmps11
  go_upto_region 1 with fail
  refine wp_letter (fun W => w1 = W) HW1.out ?_
  rintro _ rfl
  clear HW1
  by_cases hh : -1 ≤ lg ∧ -1 ≤ nx ∧ -1 ≤ sq ∧ (dn : Int) ≤ 100 ∧ (n : Int) ≤ 100
  · obtain ⟨q1, q2, q3, q4, q5⟩ := hh
    go_upto_region 4 with fail
    go_loopw [3] (fun i wr => ∃ j : Nat, j ≤ dn ∧ i = .int .i64 j ∧ w1 = wr ∧ Hid (∀ d ∈ ds.take j, 0 ≤ d)) (fun i _ => dn - (intOf i).toNat)
    case atStart => exact ⟨0, by omega, rfl, rfl, Lib.hid (by simp)⟩
    case round =>
      obtain ⟨j, hj, rfl, rfl, HALL⟩ := hrel
      by_cases hlt : j < dn
      · have hpos : 0 < (ds.map (Value.int .i64)).length := by rw [List.length_map, ← HDN.out]; omega
        obtain ⟨a, rfl⟩ := (HD.out w1 HB1.out).there hpos
        obtain ⟨d, hdj⟩ : ∃ d, ds[j]? = some d := ⟨_, List.getElem?_eq_getElem (by rw [← HDN.out]; exact hlt)⟩
        have c0 := ((HD.out w1 HB1.out).cells a rfl hpos).2 j (.int .i64 d) (by rw [List.getElem?_map, hdj]; rfl)
        have HDJ := Lib.hid hdj
        clear hpos hdj
        by_cases hd0 : 0 ≤ d
        · go_wp2_with fail
          go_roundw
          case rel => exact ⟨j + 1, by omega, by go_num, trivial, Lib.hid (mem_take_succ HDJ.out HALL.out hd0)⟩
          case measure => simp [intOf]; omega
        · obtain rfl : b = false := HF.out fun hS => hd0 (hS.2.2.2.2.2.1 d (List.mem_of_getElem? HDJ.out))
          have hd1 : d < 0 := by omega
          clear hd0
          go_wp2_with fail
          go_ret
          exact ⟨rfl, HB1.out⟩
      · obtain rfl : j = dn := by omega
        have HAD : Hid (∀ d ∈ ds, 0 ≤ d) := Lib.hid (by have := HALL.out; rw [List.take_of_length_le (by rw [HDN.out]; exact Nat.le_refl _)] at this; exact this)
        clear HALL
        go_upto_region 10 with fail
        go_loopw [4] (fun i wr => ∃ j : Nat, j ≤ n ∧ i = .int .i64 j ∧ Hid (Below w1.heap.size w1 wr) ∧ Hid (∀ f ∈ l.take j, OkF f)) (fun i _ => n - (intOf i).toNat)
        case atStart => exact ⟨0, by omega, rfl, Lib.hid (Below.refl _ _), Lib.hid (by simp)⟩
        case round =>
          clear v0 v1 v2 v3 v4
          obtain ⟨k, hk, rfl, HBR1, HALL⟩ := hrel
          have HBR := Lib.hid (below_mono HB1.out HBR1.out (Nat.le_refl _))
          obtain ⟨v0, v1, v2, v3, v4⟩ := five_cells (KX.out wr HBR1.out)
          by_cases hlt : k < n
          · have hpos : 0 < l.length := by rw [← HN.out]; omega
            obtain ⟨a, rfl⟩ := (HS.out wr HBR.out).there hpos
            obtain ⟨f, hf⟩ : ∃ f, l[k]? = some f := ⟨_, List.getElem?_eq_getElem (by rw [← HN.out]; exact hlt)⟩
            obtain ⟨c0, c1, c2, c3, c4, c5⟩ := ((HS.out wr HBR.out).cells a rfl hpos).2 k f hf
            have HFK := Lib.hid hf
            have hb2 : Below w1.heap.size w1 (wr.alloc (.cells #[.int .i64 f.num, .int .i64 f.lvl, .string f.fst, .string f.lst, .int .i64 f.cnt, .int .i64 f.sz] 45)) := HBR1.out.alloc (by have := HBR1.out.size; omega) _
            have HB2 := Lib.hid hb2
            have HNW := Lib.hid (six_cells (heap_alloc_new wr (.cells #[.int .i64 f.num, .int .i64 f.lvl, .string f.fst, .string f.lst, .int .i64 f.cnt, .int .i64 f.sz] 45)))
            clear hpos hf hb2
            obtain ⟨fn, fv, ff, fl, fc, fs⟩ := f
            dsimp only at c0 c1 c2 c3 c4 c5 HB2 HNW
            go_upto_region 12 with fail
            refine wp_letter (fun W => Below w1.heap.size w1 W ∧ W.cell? ⟨wr.heap.size, 0, none⟩ = some (.int .i64 fn) ∧ W.cell? ⟨wr.heap.size, 1, none⟩ = some (.int .i64 fv) ∧ W.cell? ⟨wr.heap.size, 2, none⟩ = some (.string ff) ∧ W.cell? ⟨wr.heap.size, 3, none⟩ = some (.string fl) ∧ W.cell? ⟨wr.heap.size, 4, none⟩ = some (.int .i64 fc) ∧ W.cell? ⟨wr.heap.size, 5, none⟩ = some (.int .i64 fs)) ⟨HB2.out, HNW.out⟩ ?_
            rintro w2 ⟨hb2, e0, e1, e2, e3, e4, e5⟩
            have HBW := Lib.hid hb2
            have HBT := Lib.hid (below_mono HB1.out hb2 (Nat.le_refl _))
            clear hb2 HB2 HNW c0 c1 c2 c3 c4 c5 v0 v1 v2 v3 v4
            by_cases hok : 0 ≤ fn ∧ 0 ≤ fv ∧ 0 ≤ fc ∧ 0 ≤ fs ∧ (ff.size : Int) ≤ 80 ∧ (fl.size : Int) ≤ 80
            · have HOK : Hid (OkF ⟨fn, fv, ff, fl, fc, fs⟩) := Lib.hid hok
              obtain ⟨o1, o2, o3, o4, o5, o6⟩ := hok
              go_wp2_with fail
              go_roundw
              case rel => exact ⟨k + 1, by omega, by go_num, HBW, Lib.hid (mem_take_succ HFK.out HALL.out HOK.out)⟩
              case measure => simp [intOf]; omega
            · obtain rfl : b = false := HF.out fun hS => hok (hS.2.2.2.2.2.2 _ (List.mem_of_getElem? HFK.out))
              have hx : fn < 0 ∨ (0 ≤ fn ∧ fv < 0) ∨ (0 ≤ fn ∧ 0 ≤ fv ∧ fc < 0) ∨ (0 ≤ fn ∧ 0 ≤ fv ∧ 0 ≤ fc ∧ fs < 0) ∨ (0 ≤ fn ∧ 0 ≤ fv ∧ 0 ≤ fc ∧ 0 ≤ fs ∧ 80 < (ff.size : Int)) ∨ (0 ≤ fn ∧ 0 ≤ fv ∧ 0 ≤ fc ∧ 0 ≤ fs ∧ (ff.size : Int) ≤ 80 ∧ 80 < (fl.size : Int)) := by omega
              clear hok
              rcases hx with o1 | ⟨o1, o2⟩ | ⟨o1, o2, o3⟩ | ⟨o1, o2, o3, o4⟩ | ⟨o1, o2, o3, o4, o5⟩ | ⟨o1, o2, o3, o4, o5, o6⟩ <;> (
                go_wp2_with fail
                go_ret
                exact ⟨rfl, HBT.out⟩)
          · obtain rfl : k = n := by omega
            obtain rfl : b = true := HT.out ⟨q1, q2, q3, by rw [← HDN.out]; omega, by rw [← HN.out]; omega, HAD.out, by have := HALL.out; rw [List.take_of_length_le (by rw [HN.out]; exact Nat.le_refl _)] at this; exact this⟩
            go_wp2_with fail
            go_ret
            exact ⟨rfl, HBR.out⟩
  · obtain rfl : b = false := HF.out fun hS => hh ⟨hS.1, hS.2.1, hS.2.2.1, by have := hS.2.2.2.1; have := HDN.out; omega, by have := hS.2.2.2.2.1; have := HN.out; omega⟩
    have hx : lg < -1 ∨ (-1 ≤ lg ∧ nx < -1) ∨ (-1 ≤ lg ∧ -1 ≤ nx ∧ sq < -1) ∨ (-1 ≤ lg ∧ -1 ≤ nx ∧ -1 ≤ sq ∧ 100 < (dn : Int)) ∨ (-1 ≤ lg ∧ -1 ≤ nx ∧ -1 ≤ sq ∧ (dn : Int) ≤ 100 ∧ 100 < (n : Int)) := by omega
    clear hh
    rcases hx with q1 | ⟨q1, q2⟩ | ⟨q1, q2, q3⟩ | ⟨q1, q2, q3, q4⟩ | ⟨q1, q2, q3, q4, q5⟩ <;> (
      go_wp2_with fail
      go_ret
      exact ⟨rfl, HB1.out⟩)
end Go.Proofs.Ytchflkibbdfeaaa
