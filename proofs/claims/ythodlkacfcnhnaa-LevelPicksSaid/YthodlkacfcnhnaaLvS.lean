/- Layer 15: a version as the program has it; the document's SameFiles; what is too great. Conditions: those written at each theorem. -/
import Derived.Test.YthodlkacfcnhnaaLvR
import Derived.Test.YthodlkacfcnhnaaLvQ
import Derived.Deep.RegionHeld3
import Derived.Deep.AppendLies
namespace Go.Proofs.Ythodlkacfcnhnaa
open Go.RowKit Go.Sort
set_option linter.unusedVariables false
set_option linter.unusedSimpArgs false
set_option maxRecDepth 100000 in
set_option maxHeartbeats 4000000 in
theorem same_files {C D : Nat} {ao bo : Option Addr} {c d : Nat} {l : List Fl} {w : World} (h : FlAt C ao l w) (k : FlAt D bo l w) (hc : l.length ≤ c) (hd : l.length ≤ d) (hl : l.length ≤ 100) : Calls Try.prog 14 #[.slice ao l.length c, .slice bo l.length d] w fun e w' => e = .returned (.bool true) ∧ Below w.heap.size w w' := by
  obtain ⟨n, hn⟩ : ∃ n, n = l.length := ⟨_, rfl⟩
  have HN := Lib.hid hn
  have H := Lib.hid h
  have K := Lib.hid k
  rw [← hn] at hc hd hl ⊢
  clear hn h k
  go_enter Try.func14, Try.ntmps14
  go_upto_region 4 with fail
  go_loopw [5] (fun i wr => ∃ j : Nat, j ≤ n ∧ i = .int .i64 j ∧ Hid (Below w.heap.size w wr)) (fun i _ => n - (intOf i).toNat)
  case atStart => exact ⟨0, by omega, rfl, Lib.hid (Below.refl _ _)⟩
  case round =>
    obtain ⟨j, hj, rfl, HB⟩ := hrel
    by_cases hlt : j < n
    · have hpos : 0 < l.length := by rw [← HN.out]; omega
      obtain ⟨a, rfl⟩ := H.out.there hpos
      obtain ⟨b, rfl⟩ := K.out.there hpos
      obtain ⟨f, hf⟩ : ∃ f, l[j]? = some f := ⟨_, List.getElem?_eq_getElem (by rw [← HN.out]; exact hlt)⟩
      have HC : Hid (SixAt wr (a.add (j * 6)) f ∧ SixAt wr (b.add (j * 6)) f) := Lib.hid (by
        have h1 := (H.out.cells a rfl hpos).2 j f hf
        have h2 := (K.out.cells b rfl hpos).2 j f hf
        have l1 : (a.add (j * 6)).block < w.heap.size := World.block_lt_of_cell? _ _ h1.1
        have l2 : (b.add (j * 6)).block < w.heap.size := World.block_lt_of_cell? _ _ h2.1
        exact ⟨h1.under l1 HB.out, h2.under l2 HB.out⟩)
      obtain ⟨⟨c0, c1, c2, c3, c4, c5⟩, ⟨d0, d1, d2, d3, d4, d5⟩⟩ := HC.out
      have j0 : (0 : Int) ≤ (j : Int) := by omega
      have j1 : (j : Int) < (n : Int) := by omega
      clear hpos hf HC
      obtain ⟨fn, fv, ff, fe, fc, fz⟩ := f
      dsimp only at c0 c1 c2 c3 c4 c5 d0 d1 d2 d3 d4 d5
      go_upto_region 6 with fail
      go_region_held3 (fun w' => w'.cell? (a.add (j * 6)) = some (.int .i64 fn) ∧ w'.cell? ⟨(a.add (j * 6)).block, (a.add (j * 6)).off + 1, none⟩ = some (.int .i64 fv) ∧ w'.cell? ⟨(a.add (j * 6)).block, (a.add (j * 6)).off + 2, none⟩ = some (.string ff) ∧ w'.cell? ⟨(a.add (j * 6)).block, (a.add (j * 6)).off + 3, none⟩ = some (.string fe) ∧ w'.cell? ⟨(a.add (j * 6)).block, (a.add (j * 6)).off + 4, none⟩ = some (.int .i64 fc) ∧ w'.cell? ⟨(a.add (j * 6)).block, (a.add (j * 6)).off + 5, none⟩ = some (.int .i64 fz) ∧ w'.cell? (b.add (j * 6)) = some (.int .i64 fn) ∧ w'.cell? ⟨(b.add (j * 6)).block, (b.add (j * 6)).off + 1, none⟩ = some (.int .i64 fv) ∧ w'.cell? ⟨(b.add (j * 6)).block, (b.add (j * 6)).off + 2, none⟩ = some (.string ff) ∧ w'.cell? ⟨(b.add (j * 6)).block, (b.add (j * 6)).off + 3, none⟩ = some (.string fe) ∧ w'.cell? ⟨(b.add (j * 6)).block, (b.add (j * 6)).off + 4, none⟩ = some (.int .i64 fc) ∧ w'.cell? ⟨(b.add (j * 6)).block, (b.add (j * 6)).off + 5, none⟩ = some (.int .i64 fz))
        (first | (go_keep; done))
        (fail)
      go_wp2_with fail
      exact ⟨⟨j + 1, by omega, by go_num, Lib.hid HB.out.drew⟩, by simp [intOf]; omega⟩
    · obtain rfl : j = n := by omega
      go_wp2_with fail
      go_ret
      exact ⟨rfl, HB.out⟩
/-- append(l, f) as a step of a region that draws. -/
theorem step_appFl {w : World} {ops : Array Oper} {o : Oper} {a : Act} {K : Act → World → Prop} {Q : Exit → Act → World → Prop} {E : Prop} (hgd : o.guard = none) (s x : Operand)
    (ho : o.op = .call { callee := .builtin .append, args := #[s, x], argTypes := #[32, 32] })
    (B : Nat) (v : Value) (n : Nat) (l : List Fl) (f : Fl) (hs : a.eval s = v) (hown : w.ownsRow B 60 6 v n (fls l)) (g : Nat) (hx : a.eval x = .slice (some ⟨g, 0, none⟩) 1 1)
    (hc : SixAt w ⟨g, 0, none⟩ f) (hl : n ≤ 1000) (hB : B ≤ w.heap.size)
    (h : ∀ v' w', w'.ownsRow B 60 6 v' (n + 1) (fls (l ++ [f])) → w.grownBy w' v.ownBlock → K (a.put o.dst v') w') :
    if Region.wanted o (yielded ops a.tmps) = true then Oper.wp Try.prog o a w K Q else E := by
  obtain ⟨i, hi, hz0, hz1, hz2⟩ := info_parts fileInfo
  obtain ⟨c0, c1, c2, c3, c4, c5⟩ := hc
  refine step_append_lies w hgd s x 32 ho B 60 i (.agg #[.int .i64 0, .int .i64 0, .string ⟨#[]⟩, .string ⟨#[]⟩, .int .i64 0, .int .i64 0]) 6 64 Try.underlying32 hi hz0 hz1 hz2 rfl (by decide) v n (fls l) hs hown ⟨g, 0, none⟩ 1 1 (fl f) hx rfl ?_ ?_ (by decide) ?_ ?_ hB _ rfl ?_
  · intro j u hj
    match j, hj with
    | 0, hj => simp [fl] at hj; subst hj; exact c0
    | 1, hj => simp [fl] at hj; subst hj; exact c1
    | 2, hj => simp [fl] at hj; subst hj; exact c2
    | 3, hj => simp [fl] at hj; subst hj; exact c3
    | 4, hj => simp [fl] at hj; subst hj; exact c4
    | 5, hj => simp [fl] at hj; subst hj; exact c5
  · intro u hu
    simp [fl] at hu
    rcases hu with rfl | rfl | rfl | rfl | rfl | rfl <;> rfl
  · unfold maxLen; omega
  · omega
  · intro g' cap w' h1 h2 _ _
    refine h _ w' ?_ h2
    rw [fls_snoc]
    exact h1
/-- What a version that the call made is. -/
def GotV (w : World) (lg nx sq : Int) (l : List Fl) (e : Ending) (w' : World) : Prop :=
  ∃ va vc, e = .returned (verV lg nx sq va l.length vc) ∧ l.length ≤ vc ∧ FlAt w'.heap.size va l w'
set_option maxRecDepth 100000 in
set_option maxHeartbeats 8000000 in
theorem version_any {B : Nat} {lg nx sq : Int} {ao : Option Addr} {c : Nat} {l : List Fl} {w : World} (h : FlAt B ao l w) (hB : B ≤ w.heap.size) (hc : l.length ≤ c) (hl : l.length ≤ 39) :
    Calls Try.prog 13 #[verV lg nx sq ao l.length c] w fun e w' => GotV w lg nx sq l e w' ∧ Below w.heap.size w w' := by
  obtain ⟨n, hn⟩ : ∃ n, n = l.length := ⟨_, rfl⟩
  have HN := Lib.hid hn
  rw [← hn] at hc hl ⊢
  have HS : Hid (∀ W, Below w.heap.size w W → FlAt B ao l W) := Lib.hid fun W hW => h.under (hW.mono hB)
  obtain ⟨z, hz⟩ : ∃ z, z = w.heap.size := ⟨_, rfl⟩
  obtain ⟨x, hx⟩ : ∃ z, z = w.heap.size + 1 := ⟨_, rfl⟩
  have HZ := Lib.hid (And.intro hz hx)
  have HM : Hid (∀ W, (w.alloc (.cells #[.int .i64 lg, .int .i64 nx, .int .i64 sq, .slice ao n c] 30)).alloc (.cells #[.int .i64 0, .int .i64 0, .int .i64 0, .slice none 0 0] 34) = W → Below w.heap.size w W ∧ W.heap[z]? = some (.cells #[.int .i64 lg, .int .i64 nx, .int .i64 sq, .slice ao n c] 30 (0, 0)) ∧ W.heap[x]? = some (.cells #[.int .i64 0, .int .i64 0, .int .i64 0, .slice none 0 0] 34 (0, 0))) := Lib.hid (by
    rintro W rfl
    have h1 : (w.alloc (.cells #[.int .i64 lg, .int .i64 nx, .int .i64 sq, .slice ao n c] 30)).heap.size = w.heap.size + 1 := by simp
    refine ⟨((Below.refl w.heap.size w).alloc (Nat.le_refl _) _).alloc (by omega) _, ?_, ?_⟩
    · rw [hz]; exact (((Below.refl _ _).alloc (Nat.le_refl _) _).block w.heap.size (by omega)).trans (heap_alloc_new w _)
    · rw [hx, ← h1]; exact heap_alloc_new _ _)
  clear hn h
  go_enter Try.func13, Try.ntmps13
  go_upto_region 1 with fail
  refine wp_letter (fun W => Below w.heap.size w W ∧ W.heap[z]? = some (.cells #[.int .i64 lg, .int .i64 nx, .int .i64 sq, .slice ao n c] 30 (0, 0)) ∧ W.heap[x]? = some (.cells #[.int .i64 0, .int .i64 0, .int .i64 0, .slice none 0 0] 34 (0, 0))) (HM.out _ rfl) ?_
  clear HM
  rintro w1 ⟨hw1, hz1, hx1⟩
  rw [← hx, ← hz]
  have HB1 := Lib.hid hw1
  have KZ : Hid (∀ W, Below w1.heap.size w1 W → W.heap[z]? = some (.cells #[.int .i64 lg, .int .i64 nx, .int .i64 sq, .slice ao n c] 30 (0, 0))) := Lib.hid fun W hW => (hW.block _ (lt_of_heap hz1)).trans hz1
  have KXX : Hid (∀ W, Below w1.heap.size w1 W → W.heap[x]? = some (.cells #[.int .i64 0, .int .i64 0, .int .i64 0, .slice none 0 0] 34 (0, 0))) := Lib.hid fun W hW => (hW.block _ (lt_of_heap hx1)).trans hx1
  obtain ⟨v0, v1, v2, v3⟩ := four_cells hz1
  have HBY := Lib.hid ((Below.refl w1.heap.size w1).alloc (Nat.le_refl _) (.cells #[.int .i64 lg, .int .i64 nx, .int .i64 sq, .slice none 0 0] 34))
  have HY := Lib.hid (heap_alloc_new w1 (.cells #[.int .i64 lg, .int .i64 nx, .int .i64 sq, .slice none 0 0] 34))
  obtain ⟨y, hy⟩ : ∃ z, z = w1.heap.size := ⟨_, rfl⟩
  have HYY := Lib.hid hy
  clear hw1 hz1 hx1 hz hx
  go_upto_region 3 with fail
  rw [← hy]
  refine wp_letter (fun W => Below w1.heap.size w1 W ∧ W.heap[y]? = some (.cells #[.int .i64 lg, .int .i64 nx, .int .i64 sq, .slice none 0 0] 34 (0, 0)) ∧ y + 1 ≤ W.heap.size) ⟨HBY.out, by rw [hy]; exact HY.out, by rw [hy]; simp⟩ ?_
  clear HBY HY v0 v1 v2 v3 hy
  rintro w2 ⟨hb2, hy2, hs2⟩
  have HB2 := Lib.hid hb2
  have HY2 := Lib.hid hy2
  have HS2 := Lib.hid hs2
  clear hb2 hy2 hs2
  go_loopw [4] (fun v wr => ∃ (j : Nat) (va : Option Addr) (vc : Nat), j ≤ n ∧ v = .int .i64 j ∧ Hid (wr.heap[y]? = some (.cells #[.int .i64 lg, .int .i64 nx, .int .i64 sq, .slice va j vc] 34 (0, 0))) ∧ Hid (wr.ownsRow (y + 1) 60 6 (.slice va j vc) j (fls (l.take j))) ∧ Hid (Below w1.heap.size w1 wr) ∧ Hid (y + 1 ≤ wr.heap.size)) (fun v _ => n - (intOf v).toNat)
  case atStart => exact ⟨0, none, 0, by omega, rfl, HY2, Lib.hid (World.ownsRow_nil w2 (y + 1) 60 6), HB2, HS2⟩
  case round =>
    obtain ⟨j, va, vc, hj, rfl, HY, HR, HB, HSZ⟩ := hrel
    obtain ⟨v0, v1, v2, v3⟩ := four_cells (KZ.out wr HB.out)
    obtain ⟨y0, y1, y2, y3⟩ := four_cells HY.out
    by_cases hlt : j < n
    · have hpos : 0 < l.length := by rw [← HN.out]; omega
      have HBW := Lib.hid (below_mono HB1.out HB.out (Nat.le_refl _))
      obtain ⟨a, rfl⟩ := (HS.out wr HBW.out).there hpos
      obtain ⟨f, hf⟩ : ∃ f, l[j]? = some f := ⟨_, List.getElem?_eq_getElem (by rw [← HN.out]; exact hlt)⟩
      obtain ⟨c0, c1, c2, c3, c4, c5⟩ := ((HS.out wr HBW.out).cells a rfl hpos).2 j f hf
      have HT : Hid (l.take (j + 1) = l.take j ++ [f]) := Lib.hid (by rw [List.take_add_one, hf]; rfl)
      have i0 : (j : Int) < (n : Int) := by omega
      have i1 : (0 : Int) ≤ (j : Int) := by omega
      have p3 : wr.frozen? ⟨y, 3, none⟩ = false := free_blk HY.out 3
      clear hpos hf
      obtain ⟨fn, fv, ff, fe, fc, fz⟩ := f
      dsimp only at c0 c1 c2 c3 c4 c5 HT
      have HA := Lib.hid ((Below.refl wr.heap.size wr).alloc (Nat.le_refl _) (.cells #[.int .i64 fn, .int .i64 fv, .string ff, .string fe, .int .i64 fc, .int .i64 fz] 60))
      have HYA := Lib.hid ((HA.out.block y (lt_of_heap HY.out)).trans HY.out)
      have H6 := Lib.hid (six_cells (heap_alloc_new wr (.cells #[.int .i64 fn, .int .i64 fv, .string ff, .string fe, .int .i64 fc, .int .i64 fz] 60)))
      obtain ⟨s0, s1, s2, s3⟩ := four_cells HYA.out
      have HRA := Lib.hid (HR.out.alloc (.cells #[.int .i64 fn, .int .i64 fv, .string ff, .string fe, .int .i64 fc, .int .i64 fz] 60))
      go_upto_region 5 with fail
      go_region_law (first
        | (refine step_appFl rfl _ _ rfl (y + 1) _ j (l.take j) ⟨fn, fv, ff, fe, fc, fz⟩ rfl HRA.out wr.heap.size rfl H6.out (by omega) (by have := HSZ.out; simp; omega) ?_
           intro v' w3 hown3 hgr0
           have hgr3 : (wr.alloc (.cells #[.int .i64 fn, .int .i64 fv, .string ff, .string fe, .int .i64 fc, .int .i64 fz] 60)).grownBy w3 (Value.slice va j vc).ownBlock := ⟨hgr0.os, hgr0.tape, hgr0.output, hgr0.size, hgr0.block⟩
           clear hgr0
           have HY3 := Lib.hid ((hgr3.block y (lt_of_heap HYA.out) (fun e => by have := (HRA.out.lt y e.symm).1; omega)).trans HYA.out)
           obtain ⟨va', vc', hv'⟩ := row_form hown3
           subst hv'
           have HR3 := Lib.hid hown3
           have HB3 : Hid (Below w1.heap.size w1 w3) := Lib.hid ((HB.out.alloc HB.out.size (.cells #[.int .i64 fn, .int .i64 fv, .string ff, .string fe, .int .i64 fc, .int .i64 fz] 60)).grown hgr3 (by have := HB.out.size; simp; omega) (fun g hg => by have := (HRA.out.lt g hg).1; have := HYY.out; omega))
           have t3 := (four_cells HY3.out).2.2.2
           have f3 := free_blk HY3.out 3
           have HSZ3 : Hid (y + 1 ≤ w3.heap.size) := Lib.hid (by have h8 := hgr3.size; have := HSZ.out; simp at h8; omega)
           clear hown3 hgr3))
      all_goals
        go_wp2_with fail
        go_roundw
        case rel => exact ⟨j + 1, va', vc', hlt, by go_num, Lib.hid (by simp [World.setCell, Array.getElem?_modify, HY3.out]), Lib.hid (by rw [HT.out]; exact ownsRow_setCell_below HR3.out (a := ⟨y, 3, none⟩) (Nat.lt_succ_self y) _), Lib.hid (HB3.out.setCell (p := ⟨y, 3, none⟩) (by rw [HYY.out]; exact Nat.le_refl _) _), Lib.hid (by have := HSZ3.out; simp; omega)⟩
        case measure => simp [intOf]; omega
    · obtain rfl : j = n := by omega
      have hrow := HR.out
      rw [List.take_of_length_le (by rw [HN.out]; exact Nat.le_refl _)] at hrow
      have HL : Hid (j ≤ vc ∧ FlAt wr.heap.size va l wr) := Lib.hid ⟨(got_row (w0 := w) hrow HN.out (by have := HB1.out.size; have := HYY.out; omega)).1, FlAt.row hrow HN.out⟩
      have bx := KXX.out wr HB.out
      obtain ⟨d0, d1, d2, d3⟩ := four_cells bx
      have p0 : wr.frozen? ⟨x, 0, none⟩ = false := free_blk bx 0
      have p1 : wr.frozen? ⟨x, 1, none⟩ = false := free_blk bx 1
      have p2 : wr.frozen? ⟨x, 2, none⟩ = false := free_blk bx 2
      have p3 : wr.frozen? ⟨x, 3, none⟩ = false := free_blk bx 3
      have HXL := Lib.hid (lt_of_heap bx)
      have HRW := Lib.hid (fun a ha => (hrow.lt a ha).1)
      have HXY : Hid (x < y) := Lib.hid (by rw [HYY.out]; exact lt_of_heap (KXX.out w1 (Below.refl _ _)))
      clear hrow bx
      go_wp2_with fail
      exact bodyPost_ret (v := verV lg nx sq va j vc) (by simp [results, Try.results13, go_sem, d0, d1, d2, d3, p0, p1, p2, p3, HXL.out]) rfl ⟨⟨va, vc, by rw [← HN.out], by rw [← HN.out]; exact HL.out.1, FlAt.more ((((HL.out.2.set ⟨x, 0, none⟩ _ (fun a ha => by have := HRW.out a.block (by rw [ha]; rfl); have := HXY.out; show x ≠ a.block; omega)).set ⟨x, 1, none⟩ _ (fun a ha => by have := HRW.out a.block (by rw [ha]; rfl); have := HXY.out; show x ≠ a.block; omega)).set ⟨x, 2, none⟩ _ (fun a ha => by have := HRW.out a.block (by rw [ha]; rfl); have := HXY.out; show x ≠ a.block; omega)).set ⟨x, 3, none⟩ _ (fun a ha => by have := HRW.out a.block (by rw [ha]; rfl); have := HXY.out; show x ≠ a.block; omega)) (by simp)⟩, ((((below_mono HB1.out HB.out (Nat.le_refl _)).setCell (p := ⟨x, 0, none⟩) (by have := HZ.out.2; simp; omega) _).setCell (p := ⟨x, 1, none⟩) (by have := HZ.out.2; simp; omega) _).setCell (p := ⟨x, 2, none⟩) (by have := HZ.out.2; simp; omega) _).setCell (p := ⟨x, 3, none⟩) (by have := HZ.out.2; simp; omega) _⟩
/-- What is known where a version is not too great. -/
def Gt (l : List Fl) (e : Ending) : Prop := ∃ r : Bool, e = .returned (.bool r) ∧ (r = false → l.length ≤ 30 ∧ RightP l)
theorem Gt.yes (l : List Fl) : Gt l (.returned (.bool true)) := ⟨_, rfl, fun h => by cases h⟩
theorem Gt.of {l : List Fl} {r : Bool} (h : r = false → l.length ≤ 30 ∧ RightP l) : Gt l (.returned (.bool r)) := ⟨_, rfl, h⟩
set_option maxRecDepth 100000 in
theorem great_any {B : Nat} {lg nx sq : Int} {ao : Option Addr} {c : Nat} {l : List Fl} {w : World} (h : FlAt B ao l w) (hB : B ≤ w.heap.size) (hc : l.length ≤ c) (hm : c ≤ maxLen) :
    Calls Try.prog 12 #[verV lg nx sq ao l.length c] w fun e w' => Gt l e ∧ Below w.heap.size w w' := by
  have CR : Hid (∀ W, Below w.heap.size w W → Calls Try.prog 30 #[verV lg nx sq ao l.length c] W fun e w' => Rt l e ∧ Below W.heap.size W w') := Lib.hid fun W hW => right_any (h.under (hW.mono hB)) (by have := hW.size; omega) hc hm
  obtain ⟨n, hn⟩ : ∃ n, n = l.length := ⟨_, rfl⟩
  have HN := Lib.hid hn
  rw [← hn] at CR ⊢
  have hn63 : n < 9223372036854775808 := by unfold maxLen at hm; omega
  have HBX := Lib.hid (heap_alloc_new w (.cells #[.int .i64 lg, .int .i64 nx, .int .i64 sq, .slice ao n c] 30))
  have HB0 := Lib.hid ((Below.refl w.heap.size w).alloc (Nat.le_refl _) (.cells #[.int .i64 lg, .int .i64 nx, .int .i64 sq, .slice ao n c] 30))
  clear hn h hm hc
  go_enter Try.func12, Try.ntmps12
  go_upto_region 1 with fail
  refine wp_letter (fun W => Below w.heap.size w W ∧ W.heap[w.heap.size]? = some (.cells #[.int .i64 lg, .int .i64 nx, .int .i64 sq, .slice ao n c] 30 (0, 0))) ⟨HB0.out, HBX.out⟩ ?_
  clear HB0 HBX
  rintro w0 ⟨hw0, hbx⟩
  have HB0 := Lib.hid hw0
  obtain ⟨v0, v1, v2, v3⟩ := four_cells hbx
  clear hw0 hbx
  by_cases hl : 30 < (n : Int)
  · go_wp2_with fail
    go_ret
    exact ⟨Gt.yes _, HB0.out⟩
  · have HL30 : Hid (l.length ≤ 30) := Lib.hid (by rw [← HN.out]; omega)
    go_wp2_with (go_at_call 30; (with_reducible refine (CR.out _ HB0.out).mono ?_); rintro e w1 ⟨⟨r, rfl, hr⟩, hb⟩; have HR := Lib.hid hr; have HB1 := Lib.hid (below_mono HB0.out hb (Nat.le_refl _)); clear hr hb)
    go_ret
    refine ⟨Gt.of (fun hf => ⟨HL30.out, HR.out ?_⟩), HB1.out⟩
    simpa using hf
end Go.Proofs.Ythodlkacfcnhnaa
