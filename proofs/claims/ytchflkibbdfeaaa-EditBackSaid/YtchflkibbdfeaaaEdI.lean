/- The law's way back from the program's edits: told, is. Conditions: those written at each theorem. -/
import Derived.Test.YtchflkibbdfeaaaEdD
import Derived.Deep.RegionHeld3
namespace Go.Proofs.Ytchflkibbdfeaaa
open Go.RowKit Go.Sort
set_option linter.unusedVariables false
set_option linter.unusedSimpArgs false
theorem fileInfo2 : (Try.prog.info? 45).map (fun i => (i.zero, i.size, i.bytes)) = some (some (.agg #[.int .i64 0, .int .i64 0, .string ⟨#[]⟩, .string ⟨#[]⟩, .int .i64 0, .int .i64 0]), 6, 64) := by kernel_rfl
/-- append(l, f), at a slice of the walk's own with one file. -/
theorem wpList_appFr {w : World} {ops : Array Oper} {rest : List Oper} {o : Oper} {a : Act} {Q : Exit → Act → World → Prop} (hgd : o.guard = none) (s x : Operand)
    (ho : o.op = .call { callee := .builtin .append, args := #[s, x], argTypes := #[23, 23] })
    (B : Nat) (v : Value) (n : Nat) (l : List Fl) (f : Fl) (hs : a.eval s = v) (hown : w.ownsRow B 45 6 v n (fls l)) (g : Nat) (hx : a.eval x = .slice (some ⟨g, 0, none⟩) 1 1)
    (hc : SixAt w ⟨g, 0, none⟩ f) (hl : n ≤ 1000) (hB : B ≤ w.heap.size)
    (h : ∀ v' w', w'.ownsRow B 45 6 v' (n + 1) (fls (l ++ [f])) → w.grownBy w' v.ownBlock → wpList Try.prog ops Q rest (a.put o.dst v') w') :
    wpList Try.prog ops Q (o :: rest) a w := by
  obtain ⟨i, hi, hz0, hz1, hz2⟩ := info_parts fileInfo2
  obtain ⟨c0, c1, c2, c3, c4, c5⟩ := hc
  refine wpList_append_own w hgd s x 23 ho B 45 i (.agg #[.int .i64 0, .int .i64 0, .string ⟨#[]⟩, .string ⟨#[]⟩, .int .i64 0, .int .i64 0]) 6 64 Try.underlying23 hi hz0 hz1 hz2 rfl (by decide) v n (fls l) hs hown ⟨g, 0, none⟩ 1 1 (fl f) hx rfl ?_ ?_ ?_ ?_ hB ?_
  · intro j u hj
    match j, hj with
    | 0, hj => simp [fl] at hj; subst hj; exact c0
    | 1, hj => simp [fl] at hj; subst hj; exact c1
    | 2, hj => simp [fl] at hj; subst hj; exact c2
    | 3, hj => simp [fl] at hj; subst hj; exact c3
    | 4, hj => simp [fl] at hj; subst hj; exact c4
    | 5, hj => simp [fl] at hj; subst hj; exact c5
  · intro u hu
    simp [fl] at hu
    rcases hu with rfl | rfl | rfl | rfl | rfl | rfl <;> rfl
  · unfold maxLen; omega
  · omega
  · intro v' w' h1 h2 _
    refine h v' w' ?_ h2
    rw [fls_snoc]
    exact h1
set_option maxRecDepth 100000 in
set_option maxHeartbeats 4000000 in
theorem told_any {B : Nat} {ao : Option Addr} {c : Nat} {l : List Fl} {w : World} (h : FlAt B ao l w) (hB : B ≤ w.heap.size) (hc : l.length ≤ c) (hl : l.length ≤ 101) : Calls Try.prog 42 #[.slice ao l.length c] w fun e w' => (∃ va vc, e = .returned (.slice va l.length vc) ∧ l.length ≤ vc ∧ FlAt w'.heap.size va l w' ∧ ∀ a, va = some a → w.heap.size ≤ a.block) ∧ Below w.heap.size w w' := by
  obtain ⟨n, hn⟩ : ∃ n, n = l.length := ⟨_, rfl⟩
  have HN := Lib.hid hn
  rw [← hn] at hc hl ⊢
  have HS : Hid (∀ W, Below w.heap.size w W → FlAt B ao l W) := Lib.hid fun W hW => h.under (hW.mono hB)
  have HZ := Lib.hid hl
  clear hn h
  go_enter Try.func42, Try.ntmps42
  go_upto_region 3 with fail
  go_loopw [3, 4] (fun v i wr => ∃ j : Nat, j ≤ n ∧ i = .int .i64 j ∧ Hid (wr.ownsRow w.heap.size 45 6 v j (fls (l.take j))) ∧ Hid (Below w.heap.size w wr)) (fun _ i _ => n - (intOf i).toNat)
  case atStart => exact ⟨0, by omega, rfl, Lib.hid (World.ownsRow_nil w w.heap.size 45 6), Lib.hid (Below.refl _ _)⟩
  case round =>
    obtain ⟨j, hj, rfl, HR, HB⟩ := hrel
    by_cases hlt : j < n
    · have hpos : 0 < l.length := by rw [← HN.out]; omega
      obtain ⟨a, rfl⟩ := (HS.out wr HB.out).there hpos
      obtain ⟨f, hf⟩ : ∃ f, l[j]? = some f := ⟨_, List.getElem?_eq_getElem (by rw [← HN.out]; exact hlt)⟩
      obtain ⟨c0, c1, c2, c3, c4, c5⟩ := ((HS.out wr HB.out).cells a rfl hpos).2 j f hf
      have HT : Hid (l.take (j + 1) = l.take j ++ [f]) := Lib.hid (by rw [List.take_add_one, hf]; rfl)
      obtain ⟨va, vc, rfl⟩ := row_form HR.out
      have hnew := heap_alloc_new wr (.cells #[.int .i64 f.num, .int .i64 f.lvl, .string f.fst, .string f.lst, .int .i64 f.cnt, .int .i64 f.sz] 45)
      have H6 := Lib.hid (six_cells hnew)
      clear hpos hf hnew
      go_wp2_with (at_builtin; refine wpList_appFr rfl _ _ rfl w.heap.size _ j (l.take j) f rfl (HR.out.alloc _) wr.heap.size rfl H6.out (by have := HZ.out; omega) (by have := HB.out.size; simp; omega) ?_; intro v' w3 hown3 hgr3)
      have HB3 : Hid (Below w.heap.size w w3) := Lib.hid ((HB.out.alloc (by have := HB.out.size; exact this) (.cells #[.int .i64 f.num, .int .i64 f.lvl, .string f.fst, .string f.lst, .int .i64 f.cnt, .int .i64 f.sz] 45)).grown hgr3 (by have := HB.out.size; simp; omega) (fun j hj => (HR.out.lt j hj).1))
      have HR3 := Lib.hid hown3
      clear hown3 hgr3 c0 c1 c2 c3 c4 c5 H6
      go_roundw
      case rel => exact ⟨j + 1, by omega, by go_num, Lib.hid (by rw [HT.out]; exact HR3.out), HB3⟩
      case measure => simp [intOf]; omega
    · obtain rfl : j = n := by omega
      obtain ⟨va, vc, rfl⟩ := row_form HR.out
      have hrow := HR.out
      rw [List.take_of_length_le (by rw [HN.out]; exact Nat.le_refl _)] at hrow
      have HL : Hid (j ≤ vc ∧ FlAt wr.heap.size va l wr ∧ ∀ a, va = some a → w.heap.size ≤ a.block) := Lib.hid (by
        refine ⟨?_, FlAt.row hrow HN.out, fun a ha => hrow.lt a.block (by rw [ha]; rfl) |>.1⟩
        rcases hrow.2 with ⟨hv, h0⟩ | ⟨b, cp, cur, hv, hb, hg, hc, _, hsz, htk⟩
        · omega
        · injection hv with e1 _ e3
          omega)
      clear hrow
      go_wp2_with fail
      go_ret
      exact ⟨⟨va, vc, rfl, HL.out.1, HL.out.2.1, HL.out.2.2⟩, HB.out⟩
set_option maxRecDepth 100000 in
set_option maxHeartbeats 4000000 in
theorem is_any {B : Nat} {lg nx sq : Int} {dd : Option Addr} {dn dc : Nat} {ao : Option Addr} {c : Nat} {l : List Fl} {w : World} (h : FlAt B ao l w) (hB : B ≤ w.heap.size) (hc : l.length ≤ c) (hl : l.length ≤ 101) : Calls Try.prog 16 #[.agg #[.int .i64 lg, .int .i64 nx, .int .i64 sq, (.slice dd dn dc), .slice ao l.length c]] w fun e w' => (∃ va vc, e = .returned (.agg #[.int .i64 lg, .int .i64 nx, .int .i64 sq, (.slice dd dn dc), .slice va l.length vc]) ∧ l.length ≤ vc ∧ FlAt w'.heap.size va l w') ∧ Below w.heap.size w w' := by
  obtain ⟨w1, hw1⟩ : ∃ x, x = (w.alloc (.cells #[.int .i64 lg, .int .i64 nx, .int .i64 sq, (.slice dd dn dc), .slice ao l.length c] 33)).alloc (.cells #[.int .i64 0, .int .i64 0, .int .i64 0, .slice none 0 0, .slice none 0 0] 25) := ⟨_, rfl⟩
  have hb1 : Below w.heap.size w w1 := by rw [hw1]; exact ((Below.refl _ _).alloc (Nat.le_refl _) _).alloc (by simp) _
  have hx : w1.heap[w.heap.size]? = some (.cells #[.int .i64 lg, .int .i64 nx, .int .i64 sq, (.slice dd dn dc), .slice ao l.length c] 33 (0, 0)) := by
    rw [hw1, Below.heap_alloc _ _ _ (by simp)]; exact heap_alloc_new w _
  have hy : w1.heap[w.heap.size + 1]? = some (.cells #[.int .i64 0, .int .i64 0, .int .i64 0, .slice none 0 0, .slice none 0 0] 25 (0, 0)) := by
    rw [hw1]
    have := heap_alloc_new (w.alloc (.cells #[.int .i64 lg, .int .i64 nx, .int .i64 sq, (.slice dd dn dc), .slice ao l.length c] 33)) (.cells #[.int .i64 0, .int .i64 0, .int .i64 0, .slice none 0 0, .slice none 0 0] 25)
    simpa using this
  have CF : Hid (∀ W, Below w.heap.size w W → Calls Try.prog 42 #[.slice ao l.length c] W fun e w' => (∃ va vc, e = .returned (.slice va l.length vc) ∧ l.length ≤ vc ∧ FlAt w'.heap.size va l w' ∧ ∀ a, va = some a → W.heap.size ≤ a.block) ∧ Below W.heap.size W w') := Lib.hid fun W hW => told_any (h.under (hW.mono hB)) (Nat.le_trans hB hW.size) hc hl
  have KX : Hid (∀ W, Below w1.heap.size w1 W → W.heap[w.heap.size]? = some (.cells #[.int .i64 lg, .int .i64 nx, .int .i64 sq, (.slice dd dn dc), .slice ao l.length c] 33 (0, 0))) := Lib.hid fun W hW => (hW.block _ (lt_of_heap hx)).trans hx
  have KY : Hid (∀ W, Below w1.heap.size w1 W → W.heap[w.heap.size + 1]? = some (.cells #[.int .i64 0, .int .i64 0, .int .i64 0, .slice none 0 0, .slice none 0 0] 25 (0, 0))) := Lib.hid fun W hW => (hW.block _ (lt_of_heap hy)).trans hy
  have HB1 := Lib.hid hb1
  have HW1 := Lib.hid hw1
  generalize l.length = n at *
  clear hb1 hx hy hw1 h
  go_enter Try.func16, Try.ntmps16
  go_upto_region 1 with fail
  refine wp_letter (fun W => w1 = W) HW1.out ?_
  rintro _ rfl
  obtain ⟨a0, a1, a2, a3, a4⟩ := five_cells (KX.out w1 (Below.refl _ _))
  clear HW1
  go_region_held3 (fun w' => w'.cell? ⟨w.heap.size, 0, none⟩ = some (.int .i64 lg) ∧ w'.cell? ⟨w.heap.size, 1, none⟩ = some (.int .i64 nx) ∧ w'.cell? ⟨w.heap.size, 2, none⟩ = some (.int .i64 sq) ∧ w'.cell? ⟨w.heap.size, 3, none⟩ = some (.slice dd dn dc) ∧ w'.cell? ⟨w.heap.size, 4, none⟩ = some (.slice ao n c))
    (first | (go_keep; done) | exact five_cells (KX.out _ H2.out))
    (first | (go_at_call 42; (with_reducible refine (CF.out _ HB1.out.drew).mono ?_); rintro e w2 ⟨⟨va, vc, rfl, hcap, hfl, hown⟩, hb2⟩; have H2 := Lib.hid (undraw hb2); have HCAP := Lib.hid hcap; have HFL := Lib.hid hfl; have HOWN := Lib.hid hown; clear hb2 hcap hfl hown; have hY := KY.out w2 H2.out; have o0 := cell_blk hY 0; have o1 := cell_blk hY 1; have o2 := cell_blk hY 2; have o3 := cell_blk hY 3; have o4 := cell_blk hY 4; simp only [List.getElem?_toArray] at o0 o1 o2 o3 o4; have p0 := free_blk hY 0; have p1 := free_blk hY 1; have p2 := free_blk hY 2; have p3 := free_blk hY 3; have p4 := free_blk hY 4; clear hY))
  go_wp2_with fail
  have HNE : Hid (∀ a, va = some a → w.heap.size + 1 ≠ a.block) := Lib.hid fun a ha => by
    have h1 := HOWN.out a ha
    have h2 := lt_of_heap (KY.out w1 (Below.refl _ _))
    have h3 : w1.drew.heap.size = w1.heap.size := rfl
    omega
  exact bodyPost_ret (v := .agg #[.int .i64 lg, .int .i64 nx, .int .i64 sq, .slice dd dn dc, .slice va n vc]) (by simp [results, Try.results16, go_sem, o0, o1, o2, o3, o4, p0, p1, p2, p3, p4]) rfl ⟨⟨va, vc, rfl, HCAP.out, by simpa using ((((HFL.out.set ⟨w.heap.size + 1, 0, none⟩ (.int .i64 lg) HNE.out).set ⟨w.heap.size + 1, 1, none⟩ (.int .i64 nx) HNE.out).set ⟨w.heap.size + 1, 2, none⟩ (.int .i64 sq) HNE.out).set ⟨w.heap.size + 1, 3, none⟩ (.slice dd dn dc) HNE.out).set ⟨w.heap.size + 1, 4, none⟩ (.slice va n vc) HNE.out⟩, (((((below_mono HB1.out H2.out (Nat.le_refl _)).setCell (p := ⟨w.heap.size + 1, 0, none⟩) (by simp) _).setCell (p := ⟨w.heap.size + 1, 1, none⟩) (by simp) _).setCell (p := ⟨w.heap.size + 1, 2, none⟩) (by simp) _).setCell (p := ⟨w.heap.size + 1, 3, none⟩) (by simp) _).setCell (p := ⟨w.heap.size + 1, 4, none⟩) (by simp) _⟩
end Go.Proofs.Ytchflkibbdfeaaa
