/- Layer 15: the law's loops that collect files. Conditions: those written at each theorem. -/
import Derived.Test.YthodlkacfcnhnaaLvF
namespace Go.Proofs.Ythodlkacfcnhnaa
open Go.RowKit Go.Sort
set_option linter.unusedVariables false
set_option linter.unusedSimpArgs false

theorem refInfo : (Try.prog.info? 37).map (fun i => (i.zero, i.size, i.bytes)) = some (some (.agg #[.int .i64 0, .int .i64 0, .string ⟨#[]⟩, .string ⟨#[]⟩, .int .i64 0, .int .i64 0]), 6, 64) := by kernel_rfl
/-- append(l, f), at a slice of the walk's own with one file. -/
theorem wpList_appFr {w : World} {ops : Array Oper} {rest : List Oper} {o : Oper} {a : Act} {Q : Exit → Act → World → Prop} (hgd : o.guard = none) (s x : Operand)
    (ho : o.op = .call { callee := .builtin .append, args := #[s, x], argTypes := #[28, 28] })
    (B : Nat) (v : Value) (n : Nat) (l : List Fl) (f : Fl) (hs : a.eval s = v) (hown : w.ownsRow B 37 6 v n (fls l)) (g : Nat) (hx : a.eval x = .slice (some ⟨g, 0, none⟩) 1 1)
    (hc : SixAt w ⟨g, 0, none⟩ f) (hl : n ≤ 1000) (hB : B ≤ w.heap.size)
    (h : ∀ v' w', w'.ownsRow B 37 6 v' (n + 1) (fls (l ++ [f])) → w.grownBy w' v.ownBlock → wpList Try.prog ops Q rest (a.put o.dst v') w') :
    wpList Try.prog ops Q (o :: rest) a w := by
  obtain ⟨i, hi, hz0, hz1, hz2⟩ := info_parts refInfo
  obtain ⟨c0, c1, c2, c3, c4, c5⟩ := hc
  refine wpList_append_own w hgd s x 28 ho B 37 i (.agg #[.int .i64 0, .int .i64 0, .string ⟨#[]⟩, .string ⟨#[]⟩, .int .i64 0, .int .i64 0]) 6 64 Try.underlying28 hi hz0 hz1 hz2 rfl (by decide) v n (fls l) hs hown ⟨g, 0, none⟩ 1 1 (fl f) hx rfl ?_ ?_ ?_ ?_ hB ?_
  · intro j u hj
    match j, hj with
    | 0, hj => simp [fl] at hj; subst hj; exact c0
    | 1, hj => simp [fl] at hj; subst hj; exact c1
    | 2, hj => simp [fl] at hj; subst hj; exact c2
    | 3, hj => simp [fl] at hj; subst hj; exact c3
    | 4, hj => simp [fl] at hj; subst hj; exact c4
    | 5, hj => simp [fl] at hj; subst hj; exact c5
  · intro u hu
    simp [fl] at hu
    rcases hu with rfl | rfl | rfl | rfl | rfl | rfl <;> rfl
  · unfold maxLen; omega
  · omega
  · intro v' w' h1 h2 _
    refine h v' w' ?_ h2
    rw [fls_snoc]
    exact h1

/-- What the law takes of a level. -/
def lwB (lv : Int) (a b : ByteArray) (f : Fl) : Bool := decide (f.lvl = lv) && (leS a b && (!Op.bytesLess f.lst.toList a.toList && !Op.bytesLess b.toList f.fst.toList))

set_option maxRecDepth 100000 in
set_option maxHeartbeats 8000000 in
theorem told_any {B : Nat} {ao : Option Addr} {c : Nat} {l : List Fl} {w : World} (h : FlAt B ao l w) (hB : B ≤ w.heap.size) (hc : l.length ≤ c) (hl : l.length ≤ 39) :
    Calls Try.prog 15 #[.slice ao l.length c] w fun e w' => Got w (l.filter (fun _ => true)) e w' ∧ Below w.heap.size w w' := by
  obtain ⟨n, hn⟩ : ∃ n, n = l.length := ⟨_, rfl⟩
  have HN := Lib.hid hn
  rw [← hn] at hc hl ⊢
  have HS : Hid (∀ W, Below w.heap.size w W → FlAt B ao l W) := Lib.hid fun W hW => h.under (hW.mono hB)
  have HZ := Lib.hid hl
  have HLEN : Hid (∀ j, ((l.take j).filter (fun _ => true)).length ≤ j) := Lib.hid fun j => Nat.le_trans (List.length_filter_le _ _) (by rw [List.length_take]; omega)
  clear hn h
  go_enter Try.func15, Try.ntmps15
  go_upto_region 3 with fail
  have HB0 := Lib.hid (Below.refl w.heap.size w)
  obtain ⟨w0, hw0⟩ : ∃ x, x = w := ⟨_, rfl⟩
  have HE0 := Lib.hid hw0
  rw [← hw0] at HB0 ⊢
  rw [hw0] at HB0
  have HB0 : Hid (Below w.heap.size w w0) := Lib.hid (by rw [hw0]; exact Below.refl _ _)
  clear hw0
  have HS0 := HS
  clear HS
  have HS : Hid (∀ W, Below w0.heap.size w0 W → FlAt B ao l W) := Lib.hid fun W hW => HS0.out W (below_mono HB0.out hW (Nat.le_refl _))
  clear HS0
  go_loopw [3, 4] (fun v i wr => ∃ j : Nat, j ≤ n ∧ i = .int .i64 j ∧ Hid (wr.ownsRow w0.heap.size 37 6 v ((l.take j).filter (fun _ => true)).length (fls ((l.take j).filter (fun _ => true)))) ∧ Hid (Below w0.heap.size w0 wr)) (fun _ i _ => n - (intOf i).toNat)
  case atStart => exact ⟨0, by omega, rfl, Lib.hid (World.ownsRow_nil w0 w0.heap.size 37 6), Lib.hid (Below.refl _ _)⟩
  case round =>
    obtain ⟨j, hj, rfl, HR, HB⟩ := hrel
    obtain ⟨va, vc, rfl⟩ := row_form HR.out
    by_cases hlt : j < n
    · have hpos : 0 < l.length := by rw [← HN.out]; omega
      obtain ⟨a, rfl⟩ := (HS.out wr HB.out).there hpos
      obtain ⟨f, hf⟩ : ∃ f, l[j]? = some f := ⟨_, List.getElem?_eq_getElem (by rw [← HN.out]; exact hlt)⟩
      obtain ⟨c0, c1, c2, c3, c4, c5⟩ := ((HS.out wr HB.out).cells a rfl hpos).2 j f hf
      have HF := Lib.hid hf
      have HB2 := HB
      have HR2 := HR
      clear hpos hf HR HB
      obtain ⟨fn, fv, ff, fe, fc, fz⟩ := f
      dsimp only at c0 c1 c2 c3 c4 c5
      obtain ⟨w2, hw2⟩ : ∃ x, x = wr := ⟨_, rfl⟩
      rw [← hw2] at HB2 HR2 c0 c1 c2 c3 c4 c5 ⊢
      clear hw2
      have HLE := Lib.hid (HLEN.out j)
      have H6 := Lib.hid (six_cells (heap_alloc_new w2 (.cells #[.int .i64 fn, .int .i64 fv, .string ff, .string fe, .int .i64 fc, .int .i64 fz] 37)))
      obtain ⟨m, hm⟩ : ∃ m, m = ((l.take j).filter (fun _ => true)).length := ⟨_, rfl⟩
      have HM := Lib.hid hm
      rw [← hm] at HR2 HLE
      rw [← hm]
      clear hm

      have HT := Lib.hid (take_filter_yes (p := (fun _ => true)) HF.out (by simp only [] <;> rfl))
      go_upto_region 4 with (at_builtin; refine wpList_appFr rfl _ _ rfl w0.heap.size _ m ((l.take j).filter (fun _ => true)) ⟨fn, fv, ff, fe, fc, fz⟩ rfl (HR2.out.alloc _) w2.heap.size rfl H6.out (by have := HZ.out; have := HLE.out; omega) (by have := HB2.out.size; simp; omega) ?_; intro v' w3 hown3 hgr3)
      have HB3 : Hid (Below w0.heap.size w0 w3) := Lib.hid ((HB2.out.alloc HB2.out.size (.cells #[.int .i64 fn, .int .i64 fv, .string ff, .string fe, .int .i64 fc, .int .i64 fz] 37)).grown hgr3 (by have := HB2.out.size; simp; omega) (fun j hj => (HR2.out.lt j hj).1))
      have HR3 := Lib.hid hown3
      clear hown3 hgr3 c0 c1 c2 c3 c4 c5 H6
      go_wp2_with fail
      go_roundw
      case rel => exact ⟨j + 1, by omega, by go_num, Lib.hid (by rw [HT.out, List.length_append, ← HM.out]; exact HR3.out), HB3⟩
      case measure => simp [intOf]; omega
    · obtain rfl : j = n := by omega
      have hrow := HR.out
      rw [List.take_of_length_le (by rw [HN.out]; exact Nat.le_refl _)] at hrow
      rw [List.take_of_length_le (by rw [HN.out]; exact Nat.le_refl _)]
      have HL := Lib.hid (got_row (w0 := w) hrow rfl HB0.out.size)
      have HBF := Lib.hid (below_mono HB0.out HB.out (Nat.le_refl _))
      clear hrow
      go_wp2_with fail
      go_ret
      exact ⟨⟨va, vc, rfl, HL.out.1, HL.out.2.1, HL.out.2.2⟩, HBF.out⟩

set_option maxRecDepth 100000 in
set_option maxHeartbeats 8000000 in
theorem wlaw_any {B : Nat} {lg nx sq : Int} {ao : Option Addr} {c : Nat} {l : List Fl} {w : World} (h : FlAt B ao l w) (hB : B ≤ w.heap.size) (hc : l.length ≤ c) (hl : l.length ≤ 39) (lv : Int) (fr tt : ByteArray) :
    Calls Try.prog 17 #[.agg #[.int .i64 lg, .int .i64 nx, .int .i64 sq, .slice ao l.length c], .int .i64 lv, .string fr, .string tt] w fun e w' => Got w (l.filter (lwB lv fr tt)) e w' ∧ Below w.heap.size w w' := by
  obtain ⟨n, hn⟩ : ∃ n, n = l.length := ⟨_, rfl⟩
  have HN := Lib.hid hn
  rw [← hn] at hc hl ⊢
  have HS : Hid (∀ W, Below w.heap.size w W → FlAt B ao l W) := Lib.hid fun W hW => h.under (hW.mono hB)
  have HZ := Lib.hid hl
  have HLEN : Hid (∀ j, ((l.take j).filter (lwB lv fr tt)).length ≤ j) := Lib.hid fun j => Nat.le_trans (List.length_filter_le _ _) (by rw [List.length_take]; omega)
  obtain ⟨v0, v1, v2, v3⟩ := four_cells (heap_alloc_new w (.cells #[.int .i64 lg, .int .i64 nx, .int .i64 sq, .slice ao n c] 30))
  have HBX := Lib.hid (heap_alloc_new w (.cells #[.int .i64 lg, .int .i64 nx, .int .i64 sq, .slice ao n c] 30))
  have HB0 := Lib.hid ((Below.refl w.heap.size w).alloc (Nat.le_refl _) (.cells #[.int .i64 lg, .int .i64 nx, .int .i64 sq, .slice ao n c] 30))
  clear hn h
  go_enter Try.func17, Try.ntmps17
  go_upto_region 3 with fail
  clear v0 v1 v2 v3
  refine wp_letter (fun W => Below w.heap.size w W ∧ W.heap[w.heap.size]? = some (.cells #[.int .i64 lg, .int .i64 nx, .int .i64 sq, .slice ao n c] 30 (0, 0))) ⟨HB0.out, HBX.out⟩ ?_
  clear HB0 HBX
  rintro w0 ⟨hw0, hbx⟩
  have HB0 := Lib.hid hw0
  have KX : Hid (∀ W, Below w0.heap.size w0 W → W.heap[w.heap.size]? = some (.cells #[.int .i64 lg, .int .i64 nx, .int .i64 sq, .slice ao n c] 30 (0, 0))) := Lib.hid fun W hW => (hW.block _ (lt_of_heap hbx)).trans hbx
  clear hw0 hbx
  have HS0 := HS
  clear HS
  have HS : Hid (∀ W, Below w0.heap.size w0 W → FlAt B ao l W) := Lib.hid fun W hW => HS0.out W (below_mono HB0.out hW (Nat.le_refl _))
  clear HS0
  go_loopw [9, 10] (fun v i wr => ∃ j : Nat, j ≤ n ∧ i = .int .i64 j ∧ Hid (wr.ownsRow w0.heap.size 37 6 v ((l.take j).filter (lwB lv fr tt)).length (fls ((l.take j).filter (lwB lv fr tt)))) ∧ Hid (Below w0.heap.size w0 wr)) (fun _ i _ => n - (intOf i).toNat)
  case atStart => exact ⟨0, by omega, rfl, Lib.hid (World.ownsRow_nil w0 w0.heap.size 37 6), Lib.hid (Below.refl _ _)⟩
  case round =>
    obtain ⟨j, hj, rfl, HR, HB⟩ := hrel
    obtain ⟨va, vc, rfl⟩ := row_form HR.out
    obtain ⟨v0, v1, v2, v3⟩ := four_cells (KX.out wr HB.out)
    by_cases hlt : j < n
    · have hpos : 0 < l.length := by rw [← HN.out]; omega
      obtain ⟨a, rfl⟩ := (HS.out wr HB.out).there hpos
      obtain ⟨f, hf⟩ : ∃ f, l[j]? = some f := ⟨_, List.getElem?_eq_getElem (by rw [← HN.out]; exact hlt)⟩
      obtain ⟨c0, c1, c2, c3, c4, c5⟩ := ((HS.out wr HB.out).cells a rfl hpos).2 j f hf
      have HF := Lib.hid hf
      have HNW := Lib.hid (six_cells (heap_alloc_new wr (.cells #[.int .i64 f.num, .int .i64 f.lvl, .string f.fst, .string f.lst, .int .i64 f.cnt, .int .i64 f.sz] 37)))
      have HB1 := Lib.hid (HB.out.alloc HB.out.size (.cells #[.int .i64 f.num, .int .i64 f.lvl, .string f.fst, .string f.lst, .int .i64 f.cnt, .int .i64 f.sz] 37))
      have HR1 := Lib.hid (HR.out.alloc (.cells #[.int .i64 f.num, .int .i64 f.lvl, .string f.fst, .string f.lst, .int .i64 f.cnt, .int .i64 f.sz] 37))
      clear hpos hf
      obtain ⟨fn, fv, ff, fe, fc, fz⟩ := f
      dsimp only at c0 c1 c2 c3 c4 c5 HNW HB1 HR1
      go_upto_region 6 with fail
      refine wp_letter (fun W => (Below w0.heap.size w0 W ∧ W.ownsRow w0.heap.size 37 6 (.slice va ((l.take j).filter (lwB lv fr tt)).length vc) ((l.take j).filter (lwB lv fr tt)).length (fls ((l.take j).filter (lwB lv fr tt)))) ∧ W.cell? ⟨wr.heap.size, 0, none⟩ = some (.int .i64 fn) ∧ W.cell? ⟨wr.heap.size, 1, none⟩ = some (.int .i64 fv) ∧ W.cell? ⟨wr.heap.size, 2, none⟩ = some (.string ff) ∧ W.cell? ⟨wr.heap.size, 3, none⟩ = some (.string fe) ∧ W.cell? ⟨wr.heap.size, 4, none⟩ = some (.int .i64 fc) ∧ W.cell? ⟨wr.heap.size, 5, none⟩ = some (.int .i64 fz)) ⟨⟨HB1.out, HR1.out⟩, HNW.out⟩ ?_
      rintro w2 ⟨⟨hb2, hr2⟩, e0, e1, e2, e3, e4, e5⟩
      have HB2 := Lib.hid hb2
      have HR2 := Lib.hid hr2
      clear hb2 hr2 HNW HB1 HR1 HR HB c0 c1 c2 c3 c4 c5 v0 v1 v2 v3
      have HLE := Lib.hid (HLEN.out j)
      have H6 := Lib.hid (six_cells (heap_alloc_new w2 (.cells #[.int .i64 fn, .int .i64 fv, .string ff, .string fe, .int .i64 fc, .int .i64 fz] 37)))
      obtain ⟨m, hm⟩ : ∃ m, m = ((l.take j).filter (lwB lv fr tt)).length := ⟨_, rfl⟩
      have HM := Lib.hid hm
      rw [← hm] at HR2 HLE
      rw [← hm]
      clear hm

      by_cases ht0 : fv = lv
      · subst ht0; have ez0 : decide (fv = fv) = true := decide_eq_true rfl
        rcases le_cases fr tt with hu1 | ⟨ht1, hu1⟩ | ⟨ht1, hu1⟩
        · skip
          cases ht2 : Op.bytesLess fe.toList fr.toList
          · skip
            cases ht3 : Op.bytesLess tt.toList ff.toList
            · skip

              have HT := Lib.hid (take_filter_yes (p := (lwB fv fr tt)) HF.out (by simp only [lwB, leS, ez0, hu1, ht2, ht3] <;> rfl))
              go_upto_region 4 with (at_builtin; refine wpList_appFr rfl _ _ rfl w0.heap.size _ m ((l.take j).filter (lwB fv fr tt)) ⟨fn, fv, ff, fe, fc, fz⟩ rfl (HR2.out.alloc _) w2.heap.size rfl H6.out (by have := HZ.out; have := HLE.out; omega) (by have := HB2.out.size; simp; omega) ?_; intro v' w3 hown3 hgr3)
              have HB3 : Hid (Below w0.heap.size w0 w3) := Lib.hid ((HB2.out.alloc HB2.out.size (.cells #[.int .i64 fn, .int .i64 fv, .string ff, .string fe, .int .i64 fc, .int .i64 fz] 37)).grown hgr3 (by have := HB2.out.size; simp; omega) (fun j hj => (HR2.out.lt j hj).1))
              have HR3 := Lib.hid hown3
              clear hown3 hgr3 e0 e1 e2 e3 e4 e5 H6
              go_wp2_with fail
              go_roundw
              case rel => exact ⟨j + 1, by omega, by go_num, Lib.hid (by rw [HT.out, List.length_append, ← HM.out]; exact HR3.out), HB3⟩
              case measure => simp [intOf]; omega
            · skip

              have HT := Lib.hid (take_filter_no (p := (lwB fv fr tt)) HF.out (by simp only [lwB, leS, ez0, hu1, ht2, ht3] <;> rfl))
              go_wp2_with fail
              go_roundw
              case rel => exact ⟨j + 1, by omega, by go_num, Lib.hid (by rw [HT.out, ← HM.out]; exact HR2.out), HB2⟩
              case measure => simp [intOf]; omega
          · skip

            have HT := Lib.hid (take_filter_no (p := (lwB fv fr tt)) HF.out (by simp only [lwB, leS, ez0, hu1, ht2] <;> rfl))
            go_wp2_with fail
            go_roundw
            case rel => exact ⟨j + 1, by omega, by go_num, Lib.hid (by rw [HT.out, ← HM.out]; exact HR2.out), HB2⟩
            case measure => simp [intOf]; omega
        · skip
          cases ht2 : Op.bytesLess fe.toList fr.toList
          · skip
            cases ht3 : Op.bytesLess tt.toList ff.toList
            · skip

              have HT := Lib.hid (take_filter_yes (p := (lwB fv fr tt)) HF.out (by simp only [lwB, leS, ez0, ht1, hu1, ht2, ht3] <;> rfl))
              go_upto_region 4 with (at_builtin; refine wpList_appFr rfl _ _ rfl w0.heap.size _ m ((l.take j).filter (lwB fv fr tt)) ⟨fn, fv, ff, fe, fc, fz⟩ rfl (HR2.out.alloc _) w2.heap.size rfl H6.out (by have := HZ.out; have := HLE.out; omega) (by have := HB2.out.size; simp; omega) ?_; intro v' w3 hown3 hgr3)
              have HB3 : Hid (Below w0.heap.size w0 w3) := Lib.hid ((HB2.out.alloc HB2.out.size (.cells #[.int .i64 fn, .int .i64 fv, .string ff, .string fe, .int .i64 fc, .int .i64 fz] 37)).grown hgr3 (by have := HB2.out.size; simp; omega) (fun j hj => (HR2.out.lt j hj).1))
              have HR3 := Lib.hid hown3
              clear hown3 hgr3 e0 e1 e2 e3 e4 e5 H6
              go_wp2_with fail
              go_roundw
              case rel => exact ⟨j + 1, by omega, by go_num, Lib.hid (by rw [HT.out, List.length_append, ← HM.out]; exact HR3.out), HB3⟩
              case measure => simp [intOf]; omega
            · skip

              have HT := Lib.hid (take_filter_no (p := (lwB fv fr tt)) HF.out (by simp only [lwB, leS, ez0, ht1, hu1, ht2, ht3] <;> rfl))
              go_wp2_with fail
              go_roundw
              case rel => exact ⟨j + 1, by omega, by go_num, Lib.hid (by rw [HT.out, ← HM.out]; exact HR2.out), HB2⟩
              case measure => simp [intOf]; omega
          · skip

            have HT := Lib.hid (take_filter_no (p := (lwB fv fr tt)) HF.out (by simp only [lwB, leS, ez0, ht1, hu1, ht2] <;> rfl))
            go_wp2_with fail
            go_roundw
            case rel => exact ⟨j + 1, by omega, by go_num, Lib.hid (by rw [HT.out, ← HM.out]; exact HR2.out), HB2⟩
            case measure => simp [intOf]; omega
        · skip

          have HT := Lib.hid (take_filter_no (p := (lwB fv fr tt)) HF.out (by simp only [lwB, leS, ez0, ht1, hu1] <;> rfl))
          go_wp2_with fail
          go_roundw
          case rel => exact ⟨j + 1, by omega, by go_num, Lib.hid (by rw [HT.out, ← HM.out]; exact HR2.out), HB2⟩
          case measure => simp [intOf]; omega
      · have ez0 := decide_eq_false ht0

        have HT := Lib.hid (take_filter_no (p := (lwB lv fr tt)) HF.out (by simp only [lwB, leS, ez0] <;> rfl))
        go_wp2_with fail
        go_roundw
        case rel => exact ⟨j + 1, by omega, by go_num, Lib.hid (by rw [HT.out, ← HM.out]; exact HR2.out), HB2⟩
        case measure => simp [intOf]; omega
    · obtain rfl : j = n := by omega
      have hrow := HR.out
      rw [List.take_of_length_le (by rw [HN.out]; exact Nat.le_refl _)] at hrow
      rw [List.take_of_length_le (by rw [HN.out]; exact Nat.le_refl _)]
      have HL := Lib.hid (got_row (w0 := w) hrow rfl HB0.out.size)
      have HBF := Lib.hid (below_mono HB0.out HB.out (Nat.le_refl _))
      clear hrow
      go_wp2_with fail
      go_ret
      exact ⟨⟨va, vc, rfl, HL.out.1, HL.out.2.1, HL.out.2.2⟩, HBF.out⟩

end Go.Proofs.Ythodlkacfcnhnaa
