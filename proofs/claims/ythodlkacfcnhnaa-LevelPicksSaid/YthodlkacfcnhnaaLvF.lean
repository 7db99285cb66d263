/- Layer 15: files collected by a loop. Conditions: those written at each theorem. -/
import Derived.Test.YthodlkacfcnhnaaLvE
namespace Go.Proofs.Ythodlkacfcnhnaa
open Go.RowKit Go.Sort
set_option linter.unusedVariables false
set_option linter.unusedSimpArgs false

theorem le_cases (x y : ByteArray) : Op.bytesLess x.toList y.toList = true ∨ (Op.bytesLess x.toList y.toList = false ∧ (x.toList == y.toList) = true) ∨ (Op.bytesLess x.toList y.toList = false ∧ (x.toList == y.toList) = false) := by
  cases Op.bytesLess x.toList y.toList
  · cases (x.toList == y.toList)
    · exact .inr (.inr ⟨rfl, rfl⟩)
    · exact .inr (.inl ⟨rfl, rfl⟩)
  · exact .inl rfl
def leS (x y : ByteArray) : Bool := Op.bytesLess x.toList y.toList || x.toList == y.toList
/-- Has a file a key from one to another? -/
def wiB (a b : ByteArray) (f : Fl) : Bool := leS a b && !Op.bytesLess f.lst.toList a.toList && leS f.fst b
/-- May a file hold a key? -/
def hoB (k : ByteArray) (f : Fl) : Bool := leS f.fst k && leS k f.lst

set_option maxRecDepth 100000 in
set_option maxHeartbeats 8000000 in
theorem holding_any {B : Nat} {lg nx sq : Int} {ao : Option Addr} {c : Nat} {l : List Fl} {w : World} (h : FlAt B ao l w) (hB : B ≤ w.heap.size) (hc : l.length ≤ c) (hl : l.length ≤ 39) (key : ByteArray) :
    Calls Try.prog 18 #[.agg #[.int .i64 lg, .int .i64 nx, .int .i64 sq, .slice ao l.length c], .string key] w fun e w' => Got w (l.filter (hoB key)) e w' ∧ Below w.heap.size w w' := by
  obtain ⟨n, hn⟩ : ∃ n, n = l.length := ⟨_, rfl⟩
  have HN := Lib.hid hn
  rw [← hn] at hc hl ⊢
  have HS : Hid (∀ W, Below w.heap.size w W → FlAt B ao l W) := Lib.hid fun W hW => h.under (hW.mono hB)
  have HZ := Lib.hid hl
  have HLEN : Hid (∀ j, ((l.take j).filter (hoB key)).length ≤ j) := Lib.hid fun j => Nat.le_trans (List.length_filter_le _ _) (by rw [List.length_take]; omega)
  obtain ⟨v0, v1, v2, v3⟩ := four_cells (heap_alloc_new w (.cells #[.int .i64 lg, .int .i64 nx, .int .i64 sq, .slice ao n c] 34))
  have HBX := Lib.hid (heap_alloc_new w (.cells #[.int .i64 lg, .int .i64 nx, .int .i64 sq, .slice ao n c] 34))
  have HB0 := Lib.hid ((Below.refl w.heap.size w).alloc (Nat.le_refl _) (.cells #[.int .i64 lg, .int .i64 nx, .int .i64 sq, .slice ao n c] 34))
  clear hn h
  go_enter Try.func18, Try.ntmps18
  go_upto_region 3 with fail
  clear v0 v1 v2 v3
  refine wp_letter (fun W => Below w.heap.size w W ∧ W.heap[w.heap.size]? = some (.cells #[.int .i64 lg, .int .i64 nx, .int .i64 sq, .slice ao n c] 34 (0, 0))) ⟨HB0.out, HBX.out⟩ ?_
  clear HB0 HBX
  rintro w0 ⟨hw0, hbx⟩
  have HB0 := Lib.hid hw0
  have KX : Hid (∀ W, Below w0.heap.size w0 W → W.heap[w.heap.size]? = some (.cells #[.int .i64 lg, .int .i64 nx, .int .i64 sq, .slice ao n c] 34 (0, 0))) := Lib.hid fun W hW => (hW.block _ (lt_of_heap hbx)).trans hbx
  clear hw0 hbx
  have HS0 := HS
  clear HS
  have HS : Hid (∀ W, Below w0.heap.size w0 W → FlAt B ao l W) := Lib.hid fun W hW => HS0.out W (below_mono HB0.out hW (Nat.le_refl _))
  clear HS0
  go_loopw [5, 11] (fun v i wr => ∃ j : Nat, j ≤ n ∧ i = .int .i64 j ∧ Hid (wr.ownsRow w0.heap.size 60 6 v ((l.take j).filter (hoB key)).length (fls ((l.take j).filter (hoB key)))) ∧ Hid (Below w0.heap.size w0 wr)) (fun _ i _ => n - (intOf i).toNat)
  case atStart => exact ⟨0, by omega, rfl, Lib.hid (World.ownsRow_nil w0 w0.heap.size 60 6), Lib.hid (Below.refl _ _)⟩
  case round =>
    obtain ⟨j, hj, rfl, HR, HB⟩ := hrel
    obtain ⟨va, vc, rfl⟩ := row_form HR.out
    by_cases hlt : j < n
    · have hpos : 0 < l.length := by rw [← HN.out]; omega
      obtain ⟨a, rfl⟩ := (HS.out wr HB.out).there hpos
      obtain ⟨f, hf⟩ : ∃ f, l[j]? = some f := ⟨_, List.getElem?_eq_getElem (by rw [← HN.out]; exact hlt)⟩
      obtain ⟨c0, c1, c2, c3, c4, c5⟩ := ((HS.out wr HB.out).cells a rfl hpos).2 j f hf
      have HF := Lib.hid hf
      have HNW := Lib.hid (six_cells (heap_alloc_new wr (.cells #[.int .i64 f.num, .int .i64 f.lvl, .string f.fst, .string f.lst, .int .i64 f.cnt, .int .i64 f.sz] 60)))
      have HB1 := Lib.hid (HB.out.alloc HB.out.size (.cells #[.int .i64 f.num, .int .i64 f.lvl, .string f.fst, .string f.lst, .int .i64 f.cnt, .int .i64 f.sz] 60))
      have HR1 := Lib.hid (HR.out.alloc (.cells #[.int .i64 f.num, .int .i64 f.lvl, .string f.fst, .string f.lst, .int .i64 f.cnt, .int .i64 f.sz] 60))
      clear hpos hf
      obtain ⟨fn, fv, ff, fe, fc, fz⟩ := f
      dsimp only at c0 c1 c2 c3 c4 c5 HNW HB1 HR1
      go_upto_region 5 with fail
      refine wp_letter (fun W => (Below w0.heap.size w0 W ∧ W.ownsRow w0.heap.size 60 6 (.slice va ((l.take j).filter (hoB key)).length vc) ((l.take j).filter (hoB key)).length (fls ((l.take j).filter (hoB key)))) ∧ W.cell? ⟨wr.heap.size, 0, none⟩ = some (.int .i64 fn) ∧ W.cell? ⟨wr.heap.size, 1, none⟩ = some (.int .i64 fv) ∧ W.cell? ⟨wr.heap.size, 2, none⟩ = some (.string ff) ∧ W.cell? ⟨wr.heap.size, 3, none⟩ = some (.string fe) ∧ W.cell? ⟨wr.heap.size, 4, none⟩ = some (.int .i64 fc) ∧ W.cell? ⟨wr.heap.size, 5, none⟩ = some (.int .i64 fz)) ⟨⟨HB1.out, HR1.out⟩, HNW.out⟩ ?_
      rintro w2 ⟨⟨hb2, hr2⟩, e0, e1, e2, e3, e4, e5⟩
      have HB2 := Lib.hid hb2
      have HR2 := Lib.hid hr2
      clear hb2 hr2 HNW HB1 HR1 HR HB c0 c1 c2 c3 c4 c5
      have HLE := Lib.hid (HLEN.out j)
      have H6 := Lib.hid (six_cells (heap_alloc_new w2 (.cells #[.int .i64 fn, .int .i64 fv, .string ff, .string fe, .int .i64 fc, .int .i64 fz] 60)))
      obtain ⟨m, hm⟩ : ∃ m, m = ((l.take j).filter (hoB key)).length := ⟨_, rfl⟩
      have HM := Lib.hid hm
      rw [← hm] at HR2 HLE
      rw [← hm]
      clear hm

      rcases le_cases ff key with hu0 | ⟨ht0, hu0⟩ | ⟨ht0, hu0⟩
      · skip
        rcases le_cases key fe with hu1 | ⟨ht1, hu1⟩ | ⟨ht1, hu1⟩
        · skip

          have HT := Lib.hid (take_filter_yes (p := (hoB key)) HF.out (by simp only [hoB, leS, hu0, hu1] <;> rfl))
          go_upto_region 7 with (at_builtin; refine wpList_appFl rfl _ _ rfl w0.heap.size _ m ((l.take j).filter (hoB key)) ⟨fn, fv, ff, fe, fc, fz⟩ rfl (HR2.out.alloc _) w2.heap.size rfl H6.out (by have := HZ.out; have := HLE.out; omega) (by have := HB2.out.size; simp; omega) ?_; intro v' w3 hown3 hgr3)
          have HB3 : Hid (Below w0.heap.size w0 w3) := Lib.hid ((HB2.out.alloc HB2.out.size (.cells #[.int .i64 fn, .int .i64 fv, .string ff, .string fe, .int .i64 fc, .int .i64 fz] 60)).grown hgr3 (by have := HB2.out.size; simp; omega) (fun j hj => (HR2.out.lt j hj).1))
          have HR3 := Lib.hid hown3
          clear hown3 hgr3 e0 e1 e2 e3 e4 e5 H6
          go_wp2_with fail
          go_roundw
          case rel => exact ⟨j + 1, by omega, by go_num, Lib.hid (by rw [HT.out, List.length_append, ← HM.out]; exact HR3.out), HB3⟩
          case measure => simp [intOf]; omega
        · skip

          have HT := Lib.hid (take_filter_yes (p := (hoB key)) HF.out (by simp only [hoB, leS, hu0, ht1, hu1] <;> rfl))
          go_upto_region 7 with (at_builtin; refine wpList_appFl rfl _ _ rfl w0.heap.size _ m ((l.take j).filter (hoB key)) ⟨fn, fv, ff, fe, fc, fz⟩ rfl (HR2.out.alloc _) w2.heap.size rfl H6.out (by have := HZ.out; have := HLE.out; omega) (by have := HB2.out.size; simp; omega) ?_; intro v' w3 hown3 hgr3)
          have HB3 : Hid (Below w0.heap.size w0 w3) := Lib.hid ((HB2.out.alloc HB2.out.size (.cells #[.int .i64 fn, .int .i64 fv, .string ff, .string fe, .int .i64 fc, .int .i64 fz] 60)).grown hgr3 (by have := HB2.out.size; simp; omega) (fun j hj => (HR2.out.lt j hj).1))
          have HR3 := Lib.hid hown3
          clear hown3 hgr3 e0 e1 e2 e3 e4 e5 H6
          go_wp2_with fail
          go_roundw
          case rel => exact ⟨j + 1, by omega, by go_num, Lib.hid (by rw [HT.out, List.length_append, ← HM.out]; exact HR3.out), HB3⟩
          case measure => simp [intOf]; omega
        · skip

          have HT := Lib.hid (take_filter_no (p := (hoB key)) HF.out (by simp only [hoB, leS, hu0, ht1, hu1] <;> rfl))
          go_wp2_with fail
          go_roundw
          case rel => exact ⟨j + 1, by omega, by go_num, Lib.hid (by rw [HT.out, ← HM.out]; exact HR2.out), HB2⟩
          case measure => simp [intOf]; omega
      · skip
        rcases le_cases key fe with hu1 | ⟨ht1, hu1⟩ | ⟨ht1, hu1⟩
        · skip

          have HT := Lib.hid (take_filter_yes (p := (hoB key)) HF.out (by simp only [hoB, leS, ht0, hu0, hu1] <;> rfl))
          go_upto_region 7 with (at_builtin; refine wpList_appFl rfl _ _ rfl w0.heap.size _ m ((l.take j).filter (hoB key)) ⟨fn, fv, ff, fe, fc, fz⟩ rfl (HR2.out.alloc _) w2.heap.size rfl H6.out (by have := HZ.out; have := HLE.out; omega) (by have := HB2.out.size; simp; omega) ?_; intro v' w3 hown3 hgr3)
          have HB3 : Hid (Below w0.heap.size w0 w3) := Lib.hid ((HB2.out.alloc HB2.out.size (.cells #[.int .i64 fn, .int .i64 fv, .string ff, .string fe, .int .i64 fc, .int .i64 fz] 60)).grown hgr3 (by have := HB2.out.size; simp; omega) (fun j hj => (HR2.out.lt j hj).1))
          have HR3 := Lib.hid hown3
          clear hown3 hgr3 e0 e1 e2 e3 e4 e5 H6
          go_wp2_with fail
          go_roundw
          case rel => exact ⟨j + 1, by omega, by go_num, Lib.hid (by rw [HT.out, List.length_append, ← HM.out]; exact HR3.out), HB3⟩
          case measure => simp [intOf]; omega
        · skip

          have HT := Lib.hid (take_filter_yes (p := (hoB key)) HF.out (by simp only [hoB, leS, ht0, hu0, ht1, hu1] <;> rfl))
          go_upto_region 7 with (at_builtin; refine wpList_appFl rfl _ _ rfl w0.heap.size _ m ((l.take j).filter (hoB key)) ⟨fn, fv, ff, fe, fc, fz⟩ rfl (HR2.out.alloc _) w2.heap.size rfl H6.out (by have := HZ.out; have := HLE.out; omega) (by have := HB2.out.size; simp; omega) ?_; intro v' w3 hown3 hgr3)
          have HB3 : Hid (Below w0.heap.size w0 w3) := Lib.hid ((HB2.out.alloc HB2.out.size (.cells #[.int .i64 fn, .int .i64 fv, .string ff, .string fe, .int .i64 fc, .int .i64 fz] 60)).grown hgr3 (by have := HB2.out.size; simp; omega) (fun j hj => (HR2.out.lt j hj).1))
          have HR3 := Lib.hid hown3
          clear hown3 hgr3 e0 e1 e2 e3 e4 e5 H6
          go_wp2_with fail
          go_roundw
          case rel => exact ⟨j + 1, by omega, by go_num, Lib.hid (by rw [HT.out, List.length_append, ← HM.out]; exact HR3.out), HB3⟩
          case measure => simp [intOf]; omega
        · skip

          have HT := Lib.hid (take_filter_no (p := (hoB key)) HF.out (by simp only [hoB, leS, ht0, hu0, ht1, hu1] <;> rfl))
          go_wp2_with fail
          go_roundw
          case rel => exact ⟨j + 1, by omega, by go_num, Lib.hid (by rw [HT.out, ← HM.out]; exact HR2.out), HB2⟩
          case measure => simp [intOf]; omega
      · skip

        have HT := Lib.hid (take_filter_no (p := (hoB key)) HF.out (by simp only [hoB, leS, ht0, hu0] <;> rfl))
        go_wp2_with fail
        go_roundw
        case rel => exact ⟨j + 1, by omega, by go_num, Lib.hid (by rw [HT.out, ← HM.out]; exact HR2.out), HB2⟩
        case measure => simp [intOf]; omega
    · obtain rfl : j = n := by omega
      have hrow := HR.out
      rw [List.take_of_length_le (by rw [HN.out]; exact Nat.le_refl _)] at hrow
      rw [List.take_of_length_le (by rw [HN.out]; exact Nat.le_refl _)]
      have HL := Lib.hid (got_row (w0 := w) hrow rfl HB0.out.size)
      have HBF := Lib.hid (below_mono HB0.out HB.out (Nat.le_refl _))
      clear hrow
      go_wp2_with fail
      go_ret
      exact ⟨⟨va, vc, rfl, HL.out.1, HL.out.2.1, HL.out.2.2⟩, HBF.out⟩

set_option maxRecDepth 100000 in
set_option maxHeartbeats 8000000 in
theorem lwithin_any {B : Nat} {lg nx sq : Int} {bo : Option Addr} {c : Nat} {L : List Fl} {w : World} (h : FlAt B bo L w) (hB : B ≤ w.heap.size) (hc : L.length ≤ c) (hl : L.length ≤ 39) (hs : Srt L) (lv : Int) (fr tt : ByteArray) :
    Calls Try.prog 16 #[.agg #[.int .i64 lg, .int .i64 nx, .int .i64 sq, .slice bo L.length c], .int .i64 lv, .string fr, .string tt] w fun e w' => Got w ((L.filter (byLvl lv)).filter (wiB fr tt)) e w' ∧ Below w.heap.size w w' := by
  have CL : Hid (∀ W, Below w.heap.size w W → Calls Try.prog 31 #[.agg #[.int .i64 lg, .int .i64 nx, .int .i64 sq, .slice bo L.length c], .int .i64 lv] W fun e w' => Got W (L.filter (byLvl lv)) e w' ∧ Below W.heap.size W w') := Lib.hid fun W hW => level_any (h.under (hW.mono hB)) (by have := hW.size; omega) hc hl hs lv
  obtain ⟨l, hl0⟩ : ∃ l, l = L.filter (byLvl lv) := ⟨_, rfl⟩
  obtain ⟨n, hn⟩ : ∃ n, n = l.length := ⟨_, rfl⟩
  have HZ : Hid (n ≤ 39) := Lib.hid (by rw [hn, hl0]; exact Nat.le_trans (List.length_filter_le _ _) hl)
  have HN := Lib.hid hn
  rw [← hl0] at CL ⊢
  have HLEN : Hid (∀ j, ((l.take j).filter (wiB fr tt)).length ≤ j) := Lib.hid fun j => Nat.le_trans (List.length_filter_le _ _) (by rw [List.length_take]; omega)
  obtain ⟨k, hk⟩ : ∃ k, k = L.length := ⟨_, rfl⟩
  rw [← hk] at CL ⊢
  clear h hB hc hl hs hl0 hn hk
  obtain ⟨v0, v1, v2, v3⟩ := four_cells (heap_alloc_new w (.cells #[.int .i64 lg, .int .i64 nx, .int .i64 sq, .slice bo k c] 34))
  have HNV := Lib.hid (And.intro v0 (And.intro v1 (And.intro v2 v3)))
  have HBX := Lib.hid ((Below.refl w.heap.size w).alloc (Nat.le_refl _) (.cells #[.int .i64 lg, .int .i64 nx, .int .i64 sq, .slice bo k c] 34))
  go_enter Try.func16, Try.ntmps16
  go_upto_region 2 with fail
  clear v0 v1 v2 v3
  refine wp_letter (fun W => Below w.heap.size w W ∧ W.cell? ⟨w.heap.size, 0, none⟩ = some (.int .i64 lg) ∧ W.cell? ⟨w.heap.size, 1, none⟩ = some (.int .i64 nx) ∧ W.cell? ⟨w.heap.size, 2, none⟩ = some (.int .i64 sq) ∧ W.cell? ⟨w.heap.size, 3, none⟩ = some (.slice bo k c)) ⟨HBX.out, HNV.out⟩ ?_
  clear HBX HNV
  rintro wb ⟨hb, v0, v1, v2, v3⟩
  have HBB := Lib.hid hb
  clear hb
  go_upto_region 3 with (go_at_call 31; (with_reducible refine (CL.out _ HBB.out).mono ?_); rintro e w0 ⟨⟨ao, cc, rfl, hcc, hfl, hne⟩, hb⟩; have HFL := Lib.hid hfl; have HB0 := Lib.hid (below_mono HBB.out hb (Nat.le_refl _)); have HN0 := HN; rw [← HN0.out]; rw [← HN0.out] at hcc; clear hfl hne hb v0 v1 v2 v3 HBB CL)
  have HS : Hid (∀ W, Below w0.heap.size w0 W → FlAt w0.heap.size ao l W) := Lib.hid fun W hW => HFL.out.under hW
  clear HFL HN0
  have hn39 := HZ.out
  go_loopw [9, 16] (fun v i wr => ∃ j : Nat, j ≤ n ∧ i = .int .i64 j ∧ Hid (wr.ownsRow w0.heap.size 60 6 v ((l.take j).filter (wiB fr tt)).length (fls ((l.take j).filter (wiB fr tt)))) ∧ Hid (Below w0.heap.size w0 wr)) (fun _ i _ => n - (intOf i).toNat)
  case atStart => exact ⟨0, by omega, rfl, Lib.hid (World.ownsRow_nil w0 w0.heap.size 60 6), Lib.hid (Below.refl _ _)⟩
  case round =>
    obtain ⟨j, hj, rfl, HR, HB⟩ := hrel
    obtain ⟨va, vc, rfl⟩ := row_form HR.out
    by_cases hlt : j < n
    · have hpos : 0 < l.length := by rw [← HN.out]; omega
      obtain ⟨a, rfl⟩ := (HS.out wr HB.out).there hpos
      obtain ⟨f, hf⟩ : ∃ f, l[j]? = some f := ⟨_, List.getElem?_eq_getElem (by rw [← HN.out]; exact hlt)⟩
      obtain ⟨c0, c1, c2, c3, c4, c5⟩ := ((HS.out wr HB.out).cells a rfl hpos).2 j f hf
      have HF := Lib.hid hf
      have HNW := Lib.hid (six_cells (heap_alloc_new wr (.cells #[.int .i64 f.num, .int .i64 f.lvl, .string f.fst, .string f.lst, .int .i64 f.cnt, .int .i64 f.sz] 60)))
      have HB1 := Lib.hid (HB.out.alloc HB.out.size (.cells #[.int .i64 f.num, .int .i64 f.lvl, .string f.fst, .string f.lst, .int .i64 f.cnt, .int .i64 f.sz] 60))
      have HR1 := Lib.hid (HR.out.alloc (.cells #[.int .i64 f.num, .int .i64 f.lvl, .string f.fst, .string f.lst, .int .i64 f.cnt, .int .i64 f.sz] 60))
      clear hpos hf
      obtain ⟨fn, fv, ff, fe, fc, fz⟩ := f
      dsimp only at c0 c1 c2 c3 c4 c5 HNW HB1 HR1
      go_upto_region 5 with fail
      refine wp_letter (fun W => (Below w0.heap.size w0 W ∧ W.ownsRow w0.heap.size 60 6 (.slice va ((l.take j).filter (wiB fr tt)).length vc) ((l.take j).filter (wiB fr tt)).length (fls ((l.take j).filter (wiB fr tt)))) ∧ W.cell? ⟨wr.heap.size, 0, none⟩ = some (.int .i64 fn) ∧ W.cell? ⟨wr.heap.size, 1, none⟩ = some (.int .i64 fv) ∧ W.cell? ⟨wr.heap.size, 2, none⟩ = some (.string ff) ∧ W.cell? ⟨wr.heap.size, 3, none⟩ = some (.string fe) ∧ W.cell? ⟨wr.heap.size, 4, none⟩ = some (.int .i64 fc) ∧ W.cell? ⟨wr.heap.size, 5, none⟩ = some (.int .i64 fz)) ⟨⟨HB1.out, HR1.out⟩, HNW.out⟩ ?_
      rintro w2 ⟨⟨hb2, hr2⟩, e0, e1, e2, e3, e4, e5⟩
      have HB2 := Lib.hid hb2
      have HR2 := Lib.hid hr2
      clear hb2 hr2 HNW HB1 HR1 HR HB c0 c1 c2 c3 c4 c5
      have HLE := Lib.hid (HLEN.out j)
      have H6 := Lib.hid (six_cells (heap_alloc_new w2 (.cells #[.int .i64 fn, .int .i64 fv, .string ff, .string fe, .int .i64 fc, .int .i64 fz] 60)))
      obtain ⟨m, hm⟩ : ∃ m, m = ((l.take j).filter (wiB fr tt)).length := ⟨_, rfl⟩
      have HM := Lib.hid hm
      rw [← hm] at HR2 HLE
      rw [← hm]
      clear hm

      rcases le_cases fr tt with hu0 | ⟨ht0, hu0⟩ | ⟨ht0, hu0⟩
      · skip
        cases ht1 : Op.bytesLess fe.toList fr.toList
        · skip
          rcases le_cases ff tt with hu2 | ⟨ht2, hu2⟩ | ⟨ht2, hu2⟩
          · skip

            have HT := Lib.hid (take_filter_yes (p := (wiB fr tt)) HF.out (by simp only [wiB, leS, hu0, ht1, hu2] <;> rfl))
            go_upto_region 7 with (at_builtin; refine wpList_appFl rfl _ _ rfl w0.heap.size _ m ((l.take j).filter (wiB fr tt)) ⟨fn, fv, ff, fe, fc, fz⟩ rfl (HR2.out.alloc _) w2.heap.size rfl H6.out (by have := HZ.out; have := HLE.out; omega) (by have := HB2.out.size; simp; omega) ?_; intro v' w3 hown3 hgr3)
            have HB3 : Hid (Below w0.heap.size w0 w3) := Lib.hid ((HB2.out.alloc HB2.out.size (.cells #[.int .i64 fn, .int .i64 fv, .string ff, .string fe, .int .i64 fc, .int .i64 fz] 60)).grown hgr3 (by have := HB2.out.size; simp; omega) (fun j hj => (HR2.out.lt j hj).1))
            have HR3 := Lib.hid hown3
            clear hown3 hgr3 e0 e1 e2 e3 e4 e5 H6
            go_wp2_with fail
            go_roundw
            case rel => exact ⟨j + 1, by omega, by go_num, Lib.hid (by rw [HT.out, List.length_append, ← HM.out]; exact HR3.out), HB3⟩
            case measure => simp [intOf]; omega
          · skip

            have HT := Lib.hid (take_filter_yes (p := (wiB fr tt)) HF.out (by simp only [wiB, leS, hu0, ht1, ht2, hu2] <;> rfl))
            go_upto_region 7 with (at_builtin; refine wpList_appFl rfl _ _ rfl w0.heap.size _ m ((l.take j).filter (wiB fr tt)) ⟨fn, fv, ff, fe, fc, fz⟩ rfl (HR2.out.alloc _) w2.heap.size rfl H6.out (by have := HZ.out; have := HLE.out; omega) (by have := HB2.out.size; simp; omega) ?_; intro v' w3 hown3 hgr3)
            have HB3 : Hid (Below w0.heap.size w0 w3) := Lib.hid ((HB2.out.alloc HB2.out.size (.cells #[.int .i64 fn, .int .i64 fv, .string ff, .string fe, .int .i64 fc, .int .i64 fz] 60)).grown hgr3 (by have := HB2.out.size; simp; omega) (fun j hj => (HR2.out.lt j hj).1))
            have HR3 := Lib.hid hown3
            clear hown3 hgr3 e0 e1 e2 e3 e4 e5 H6
            go_wp2_with fail
            go_roundw
            case rel => exact ⟨j + 1, by omega, by go_num, Lib.hid (by rw [HT.out, List.length_append, ← HM.out]; exact HR3.out), HB3⟩
            case measure => simp [intOf]; omega
          · skip

            have HT := Lib.hid (take_filter_no (p := (wiB fr tt)) HF.out (by simp only [wiB, leS, hu0, ht1, ht2, hu2] <;> rfl))
            go_wp2_with fail
            go_roundw
            case rel => exact ⟨j + 1, by omega, by go_num, Lib.hid (by rw [HT.out, ← HM.out]; exact HR2.out), HB2⟩
            case measure => simp [intOf]; omega
        · skip

          have HT := Lib.hid (take_filter_no (p := (wiB fr tt)) HF.out (by simp only [wiB, leS, hu0, ht1] <;> rfl))
          go_wp2_with fail
          go_roundw
          case rel => exact ⟨j + 1, by omega, by go_num, Lib.hid (by rw [HT.out, ← HM.out]; exact HR2.out), HB2⟩
          case measure => simp [intOf]; omega
      · skip
        cases ht1 : Op.bytesLess fe.toList fr.toList
        · skip
          rcases le_cases ff tt with hu2 | ⟨ht2, hu2⟩ | ⟨ht2, hu2⟩
          · skip

            have HT := Lib.hid (take_filter_yes (p := (wiB fr tt)) HF.out (by simp only [wiB, leS, ht0, hu0, ht1, hu2] <;> rfl))
            go_upto_region 7 with (at_builtin; refine wpList_appFl rfl _ _ rfl w0.heap.size _ m ((l.take j).filter (wiB fr tt)) ⟨fn, fv, ff, fe, fc, fz⟩ rfl (HR2.out.alloc _) w2.heap.size rfl H6.out (by have := HZ.out; have := HLE.out; omega) (by have := HB2.out.size; simp; omega) ?_; intro v' w3 hown3 hgr3)
            have HB3 : Hid (Below w0.heap.size w0 w3) := Lib.hid ((HB2.out.alloc HB2.out.size (.cells #[.int .i64 fn, .int .i64 fv, .string ff, .string fe, .int .i64 fc, .int .i64 fz] 60)).grown hgr3 (by have := HB2.out.size; simp; omega) (fun j hj => (HR2.out.lt j hj).1))
            have HR3 := Lib.hid hown3
            clear hown3 hgr3 e0 e1 e2 e3 e4 e5 H6
            go_wp2_with fail
            go_roundw
            case rel => exact ⟨j + 1, by omega, by go_num, Lib.hid (by rw [HT.out, List.length_append, ← HM.out]; exact HR3.out), HB3⟩
            case measure => simp [intOf]; omega
          · skip

            have HT := Lib.hid (take_filter_yes (p := (wiB fr tt)) HF.out (by simp only [wiB, leS, ht0, hu0, ht1, ht2, hu2] <;> rfl))
            go_upto_region 7 with (at_builtin; refine wpList_appFl rfl _ _ rfl w0.heap.size _ m ((l.take j).filter (wiB fr tt)) ⟨fn, fv, ff, fe, fc, fz⟩ rfl (HR2.out.alloc _) w2.heap.size rfl H6.out (by have := HZ.out; have := HLE.out; omega) (by have := HB2.out.size; simp; omega) ?_; intro v' w3 hown3 hgr3)
            have HB3 : Hid (Below w0.heap.size w0 w3) := Lib.hid ((HB2.out.alloc HB2.out.size (.cells #[.int .i64 fn, .int .i64 fv, .string ff, .string fe, .int .i64 fc, .int .i64 fz] 60)).grown hgr3 (by have := HB2.out.size; simp; omega) (fun j hj => (HR2.out.lt j hj).1))
            have HR3 := Lib.hid hown3
            clear hown3 hgr3 e0 e1 e2 e3 e4 e5 H6
            go_wp2_with fail
            go_roundw
            case rel => exact ⟨j + 1, by omega, by go_num, Lib.hid (by rw [HT.out, List.length_append, ← HM.out]; exact HR3.out), HB3⟩
            case measure => simp [intOf]; omega
          · skip

            have HT := Lib.hid (take_filter_no (p := (wiB fr tt)) HF.out (by simp only [wiB, leS, ht0, hu0, ht1, ht2, hu2] <;> rfl))
            go_wp2_with fail
            go_roundw
            case rel => exact ⟨j + 1, by omega, by go_num, Lib.hid (by rw [HT.out, ← HM.out]; exact HR2.out), HB2⟩
            case measure => simp [intOf]; omega
        · skip

          have HT := Lib.hid (take_filter_no (p := (wiB fr tt)) HF.out (by simp only [wiB, leS, ht0, hu0, ht1] <;> rfl))
          go_wp2_with fail
          go_roundw
          case rel => exact ⟨j + 1, by omega, by go_num, Lib.hid (by rw [HT.out, ← HM.out]; exact HR2.out), HB2⟩
          case measure => simp [intOf]; omega
      · skip

        have HT := Lib.hid (take_filter_no (p := (wiB fr tt)) HF.out (by simp only [wiB, leS, ht0, hu0] <;> rfl))
        go_wp2_with fail
        go_roundw
        case rel => exact ⟨j + 1, by omega, by go_num, Lib.hid (by rw [HT.out, ← HM.out]; exact HR2.out), HB2⟩
        case measure => simp [intOf]; omega
    · obtain rfl : j = n := by omega
      have hrow := HR.out
      rw [List.take_of_length_le (by rw [HN.out]; exact Nat.le_refl _)] at hrow
      rw [List.take_of_length_le (by rw [HN.out]; exact Nat.le_refl _)]
      have HL := Lib.hid (got_row (w0 := w) hrow rfl HB0.out.size)
      have HBF := Lib.hid (below_mono HB0.out HB.out (Nat.le_refl _))
      clear hrow
      go_wp2_with fail
      go_ret
      exact ⟨⟨va, vc, rfl, HL.out.1, HL.out.2.1, HL.out.2.2⟩, HBF.out⟩

end Go.Proofs.Ythodlkacfcnhnaa
