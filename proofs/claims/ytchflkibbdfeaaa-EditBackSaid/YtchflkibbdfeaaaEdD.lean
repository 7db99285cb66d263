/- Files as a model of ints and texts; a slice of them in memory; the law's great, files, of. Conditions: those written at each theorem. -/
import Derived.Test.YtchflkibbdfeaaaEdC
import Derived.Deep.RegionHeld3
namespace Go.Proofs.Ytchflkibbdfeaaa
open Go.RowKit Go.Sort
set_option linter.unusedVariables false
set_option linter.unusedSimpArgs false
/-- A file. -/
structure Fl where
  num : Int
  lvl : Int
  fst : ByteArray
  lst : ByteArray
  cnt : Int
  sz : Int
def fl (f : Fl) : List Value := [.int .i64 f.num, .int .i64 f.lvl, .string f.fst, .string f.lst, .int .i64 f.cnt, .int .i64 f.sz]
def fls (l : List Fl) : List Value := l.flatMap fl
theorem fls_cons (f : Fl) (l : List Fl) : fls (f :: l) = fl f ++ fls l := rfl
theorem fls_snoc (l : List Fl) (f : Fl) : fls (l ++ [f]) = fls l ++ fl f := by simp [fls]
theorem fls_get : ∀ (l : List Fl) (i k : Nat) (f : Fl), l[i]? = some f → k < 6 → (fls l)[i * 6 + k]? = (fl f)[k]?
  | x :: l, 0, k, f, h, hk => by
    simp at h
    subst h
    rw [fls_cons, List.getElem?_append_left (by simp [fl]; omega)]
    simp
  | x :: l, i + 1, k, f, h, hk => by
    rw [fls_cons, List.getElem?_append_right (by simp [fl]; omega)]
    have := fls_get l i k f (by simpa using h) hk
    rw [← this]
    congr 1
    simp [fl]
    omega
/-- A file's cells at an address. -/
def SixAt (w : World) (a : Addr) (f : Fl) : Prop :=
  w.cell? a = some (.int .i64 f.num) ∧ w.cell? ⟨a.block, a.off + 1, none⟩ = some (.int .i64 f.lvl) ∧ w.cell? ⟨a.block, a.off + 2, none⟩ = some (.string f.fst) ∧ w.cell? ⟨a.block, a.off + 3, none⟩ = some (.string f.lst) ∧ w.cell? ⟨a.block, a.off + 4, none⟩ = some (.int .i64 f.cnt) ∧ w.cell? ⟨a.block, a.off + 5, none⟩ = some (.int .i64 f.sz)
theorem SixAt.under {B : Nat} {w w' : World} {a : Addr} {f : Fl} (h : SixAt w a f) (hb : a.block < B) (k : Below B w w') : SixAt w' a f := by
  obtain ⟨h0, h1, h2, h3, h4, h5⟩ := h
  exact ⟨(k.cell (p := a) hb).trans h0, (k.cell (p := ⟨_, _, none⟩) hb).trans h1, (k.cell (p := ⟨_, _, none⟩) hb).trans h2, (k.cell (p := ⟨_, _, none⟩) hb).trans h3, (k.cell (p := ⟨_, _, none⟩) hb).trans h4, (k.cell (p := ⟨_, _, none⟩) hb).trans h5⟩
theorem add_blk (a : Addr) (j : Nat) : (a.add j).block = a.block := by unfold Addr.add; split <;> rfl
/-- Files in memory below a block. -/
structure FlAt (B : Nat) (ao : Option Addr) (l : List Fl) (w : World) : Prop where
  there : 0 < l.length → ∃ a, ao = some a
  cells : ∀ a, ao = some a → 0 < l.length → a.block < B ∧ ∀ (i : Nat) f, l[i]? = some f → SixAt w (a.add (i * 6)) f
theorem FlAt.under {B : Nat} {ao : Option Addr} {l : List Fl} {w w' : World} (h : FlAt B ao l w) (k : Below B w w') : FlAt B ao l w' :=
  ⟨h.there, fun a e hp => ⟨(h.cells a e hp).1, fun i x hi => ((h.cells a e hp).2 i x hi).under (by rw [add_blk]; exact (h.cells a e hp).1) k⟩⟩
theorem FlAt.more {B C : Nat} {ao : Option Addr} {l : List Fl} {w : World} (h : FlAt B ao l w) (k : B ≤ C) : FlAt C ao l w :=
  ⟨h.there, fun a e hp => ⟨Nat.lt_of_lt_of_le (h.cells a e hp).1 k, (h.cells a e hp).2⟩⟩
/-- Ints in memory below a block. -/
structure VAt (B : Nat) (ao : Option Addr) (l : List Value) (w : World) : Prop where
  there : 0 < l.length → ∃ a, ao = some a
  cells : ∀ a, ao = some a → 0 < l.length → a.block < B ∧ ∀ (i : Nat) x, l[i]? = some x → w.cell? (a.add i) = some x
theorem VAt.under {B : Nat} {ao : Option Addr} {l : List Value} {w w' : World} (h : VAt B ao l w) (k : Below B w w') : VAt B ao l w' :=
  ⟨h.there, fun a e hp => ⟨(h.cells a e hp).1, fun i x hi => (k.cell (p := a.add i) (by
    have : (a.add i).block = a.block := by unfold Addr.add; split <;> rfl
    rw [this]; exact (h.cells a e hp).1)).trans ((h.cells a e hp).2 i x hi)⟩⟩
theorem FlAt.row {B T n c : Nat} {va : Option Addr} {l : List Fl} {w : World} (h : w.ownsRow B T 6 (.slice va n c) n (fls l)) (hn : n = l.length) : FlAt w.heap.size va l w := by
  rcases h.2 with ⟨hv, h0⟩ | ⟨b, cp, cur, hv, hb, hg, hc, _, hsz, htk⟩
  · refine ⟨fun hp => by omega, fun a e hp => by omega⟩
  · injection hv with e1 _ e3
    subst e1 e3
    refine ⟨fun _ => ⟨_, rfl⟩, fun a e hp => ?_⟩
    cases e
    refine ⟨lt_of_heap hg, fun i f hf => ?_⟩
    have hi : i < l.length := (List.getElem?_eq_some_iff.1 hf).1
    have hcell : ∀ k, k < 6 → w.cell? ⟨b, i * 6 + k, none⟩ = (fl f)[k]? := by
      intro k hk
      rw [cell_blk hg, ← fls_get l i k f hf hk, ← htk, List.getElem?_take_of_lt (by omega)]
      simp
    have ea : ∀ j, (⟨b, 0, none⟩ : Addr).add j = ⟨b, j, none⟩ := fun j => by unfold Addr.add; split <;> simp_all
    rw [ea]
    exact ⟨hcell 0 (by omega), hcell 1 (by omega), hcell 2 (by omega), hcell 3 (by omega), hcell 4 (by omega), hcell 5 (by omega)⟩
theorem FlAt.set {B : Nat} {ao : Option Addr} {l : List Fl} {w : World} (h : FlAt B ao l w) (p : Addr) (v : Value) (hne : ∀ a, ao = some a → p.block ≠ a.block) : FlAt B ao l (w.setCell p v) :=
  ⟨h.there, fun a e hp => ⟨(h.cells a e hp).1, fun i x hi => by
    obtain ⟨h0, h1, h2, h3, h4, h5⟩ := (h.cells a e hp).2 i x hi
    have hb : p.block ≠ (a.add (i * 6)).block := by rw [add_blk]; exact hne a e
    refine ⟨?_, ?_, ?_, ?_, ?_, ?_⟩
    · rw [World.cell?_setCell_far _ _ _ _ hb]; exact h0
    · rw [World.cell?_setCell_far _ _ _ _ (by exact hb)]; exact h1
    · rw [World.cell?_setCell_far _ _ _ _ (by exact hb)]; exact h2
    · rw [World.cell?_setCell_far _ _ _ _ (by exact hb)]; exact h3
    · rw [World.cell?_setCell_far _ _ _ _ (by exact hb)]; exact h4
    · rw [World.cell?_setCell_far _ _ _ _ (by exact hb)]; exact h5⟩⟩
/-- append(l, f), at a slice of the walk's own with one file. -/
theorem wpList_appFl {w : World} {ops : Array Oper} {rest : List Oper} {o : Oper} {a : Act} {Q : Exit → Act → World → Prop} (hgd : o.guard = none) (s x : Operand)
    (ho : o.op = .call { callee := .builtin .append, args := #[s, x], argTypes := #[31, 31] })
    (B : Nat) (v : Value) (n : Nat) (l : List Fl) (f : Fl) (hs : a.eval s = v) (hown : w.ownsRow B 47 6 v n (fls l)) (g : Nat) (hx : a.eval x = .slice (some ⟨g, 0, none⟩) 1 1)
    (hc : SixAt w ⟨g, 0, none⟩ f) (hl : n ≤ 1000) (hB : B ≤ w.heap.size)
    (h : ∀ v' w', w'.ownsRow B 47 6 v' (n + 1) (fls (l ++ [f])) → w.grownBy w' v.ownBlock → wpList Try.prog ops Q rest (a.put o.dst v') w') :
    wpList Try.prog ops Q (o :: rest) a w := by
  obtain ⟨i, hi, hz0, hz1, hz2⟩ := info_parts fileInfo
  obtain ⟨c0, c1, c2, c3, c4, c5⟩ := hc
  refine wpList_append_own w hgd s x 31 ho B 47 i (.agg #[.int .i64 0, .int .i64 0, .string ⟨#[]⟩, .string ⟨#[]⟩, .int .i64 0, .int .i64 0]) 6 64 Try.underlying31 hi hz0 hz1 hz2 rfl (by decide) v n (fls l) hs hown ⟨g, 0, none⟩ 1 1 (fl f) hx rfl ?_ ?_ ?_ ?_ hB ?_
  · intro j u hj
    match j, hj with
    | 0, hj => simp [fl] at hj; subst hj; exact c0
    | 1, hj => simp [fl] at hj; subst hj; exact c1
    | 2, hj => simp [fl] at hj; subst hj; exact c2
    | 3, hj => simp [fl] at hj; subst hj; exact c3
    | 4, hj => simp [fl] at hj; subst hj; exact c4
    | 5, hj => simp [fl] at hj; subst hj; exact c5
  · intro u hu
    simp [fl] at hu
    rcases hu with rfl | rfl | rfl | rfl | rfl | rfl <;> rfl
  · unfold maxLen; omega
  · omega
  · intro v' w' h1 h2 _
    refine h v' w' ?_ h2
    rw [fls_snoc]
    exact h1
def Rg (n : Nat) (e : Ending) : Prop := ∃ r, e = .returned (.bool r) ∧ (r = false → n ≤ 101)
theorem Rg.yes (n : Nat) : Rg n (.returned (.bool true)) := ⟨_, rfl, fun h => by cases h⟩
theorem Rg.no {n : Nat} (h : n ≤ 101) : Rg n (.returned (.bool false)) := ⟨_, rfl, fun _ => h⟩
set_option maxRecDepth 100000 in
theorem great_any {B : Nat} {ao : Option Addr} {c : Nat} {l : List Fl} {w : World} (h : FlAt B ao l w) (hc : l.length ≤ c) (hm : c ≤ maxLen) : Calls Try.prog 7 #[.slice ao l.length c] w fun e w' => Rg l.length e ∧ w = w' := by
  obtain ⟨n, hn⟩ : ∃ n, n = l.length := ⟨_, rfl⟩
  have HN := Lib.hid hn
  rw [← hn] at hc ⊢
  have hm2 : n < 9223372036854775808 := by unfold maxLen at hm; omega
  have H := Lib.hid h
  clear hn hm h
  by_cases hbig : n ≤ 30 ∨ n = 101
  · have HBIG : Hid (n ≤ 101) := Lib.hid (by omega)
    have hd : ((n : Int) ≤ 30 ∧ n ≠ 101) ∨ (30 < (n : Int) ∧ (n : Int) = 101) := by omega
    clear hbig
    go_enter Try.func7, Try.ntmps7
    rcases hd with ⟨hd, hd2⟩ | ⟨hd, hd2⟩
    all_goals
      go_wp2_with fail
      go_loopw [3] (fun i wr => ∃ j : Nat, j ≤ n ∧ i = .int .i64 j ∧ w = wr) (fun i _ => n - (intOf i).toNat)
      case atStart => exact ⟨0, by omega, rfl, rfl⟩
      case round =>
        obtain ⟨j, hj, rfl, rfl⟩ := hrel
        by_cases hlt : j < n
        · have hpos : 0 < l.length := by rw [← HN.out]; omega
          obtain ⟨a, rfl⟩ := H.out.there hpos
          obtain ⟨f, hf⟩ : ∃ f, l[j]? = some f := ⟨_, List.getElem?_eq_getElem (by rw [← HN.out]; exact hlt)⟩
          obtain ⟨c0, c1, c2, c3, c4, c5⟩ := (H.out.cells a rfl hpos).2 j f hf
          clear hpos hf
          go_wp2_with fail
          all_goals try (go_ret; refine ⟨Rg.yes _, ?_⟩; first | trivial | rfl)
          go_roundw
          case rel => exact ⟨j + 1, by omega, by go_num, trivial⟩
          case measure => simp [intOf]; omega
        · obtain rfl : j = n := by omega
          go_wp2_with fail
          go_ret
          exact ⟨Rg.no HBIG.out, rfl⟩
  · have hd : 30 < (n : Int) := by omega
    have hd2 : (n : Int) ≠ 101 := by omega
    clear hbig
    go_enter Try.func7, Try.ntmps7
    go_wp2_with fail
    go_ret
    exact ⟨Rg.yes _, rfl⟩
set_option maxRecDepth 100000 in
set_option maxHeartbeats 4000000 in
theorem files_any {B : Nat} {ao : Option Addr} {c : Nat} {l : List Fl} {w : World} (h : FlAt B ao l w) (hB : B ≤ w.heap.size) (hc : l.length ≤ c) (hl : l.length ≤ 101) : Calls Try.prog 26 #[.slice ao l.length c] w fun e w' => (∃ va vc, e = .returned (.slice va l.length vc) ∧ l.length ≤ vc ∧ FlAt w'.heap.size va l w' ∧ ∀ a, va = some a → w.heap.size ≤ a.block) ∧ Below w.heap.size w w' := by
  obtain ⟨n, hn⟩ : ∃ n, n = l.length := ⟨_, rfl⟩
  have HN := Lib.hid hn
  rw [← hn] at hc hl ⊢
  have HS : Hid (∀ W, Below w.heap.size w W → FlAt B ao l W) := Lib.hid fun W hW => h.under (hW.mono hB)
  have HZ := Lib.hid hl
  clear hn h
  go_enter Try.func26, Try.ntmps26
  go_upto_region 3 with fail
  go_loopw [3, 4] (fun v i wr => ∃ j : Nat, j ≤ n ∧ i = .int .i64 j ∧ Hid (wr.ownsRow w.heap.size 47 6 v j (fls (l.take j))) ∧ Hid (Below w.heap.size w wr)) (fun _ i _ => n - (intOf i).toNat)
  case atStart => exact ⟨0, by omega, rfl, Lib.hid (World.ownsRow_nil w w.heap.size 47 6), Lib.hid (Below.refl _ _)⟩
  case round =>
    obtain ⟨j, hj, rfl, HR, HB⟩ := hrel
    by_cases hlt : j < n
    · have hpos : 0 < l.length := by rw [← HN.out]; omega
      obtain ⟨a, rfl⟩ := (HS.out wr HB.out).there hpos
      obtain ⟨f, hf⟩ : ∃ f, l[j]? = some f := ⟨_, List.getElem?_eq_getElem (by rw [← HN.out]; exact hlt)⟩
      obtain ⟨c0, c1, c2, c3, c4, c5⟩ := ((HS.out wr HB.out).cells a rfl hpos).2 j f hf
      have HT : Hid (l.take (j + 1) = l.take j ++ [f]) := Lib.hid (by rw [List.take_add_one, hf]; rfl)
      obtain ⟨va, vc, rfl⟩ := row_form HR.out
      have hnew := heap_alloc_new wr (.cells #[.int .i64 f.num, .int .i64 f.lvl, .string f.fst, .string f.lst, .int .i64 f.cnt, .int .i64 f.sz] 47)
      have H6 := Lib.hid (six_cells hnew)
      clear hpos hf hnew
      go_wp2_with (at_builtin; refine wpList_appFl rfl _ _ rfl w.heap.size _ j (l.take j) f rfl (HR.out.alloc _) wr.heap.size rfl H6.out (by have := HZ.out; omega) (by have := HB.out.size; simp; omega) ?_; intro v' w3 hown3 hgr3)
      have HB3 : Hid (Below w.heap.size w w3) := Lib.hid ((HB.out.alloc (by have := HB.out.size; exact this) (.cells #[.int .i64 f.num, .int .i64 f.lvl, .string f.fst, .string f.lst, .int .i64 f.cnt, .int .i64 f.sz] 47)).grown hgr3 (by have := HB.out.size; simp; omega) (fun j hj => (HR.out.lt j hj).1))
      have HR3 := Lib.hid hown3
      clear hown3 hgr3 c0 c1 c2 c3 c4 c5 H6
      go_roundw
      case rel => exact ⟨j + 1, by omega, by go_num, Lib.hid (by rw [HT.out]; exact HR3.out), HB3⟩
      case measure => simp [intOf]; omega
    · obtain rfl : j = n := by omega
      obtain ⟨va, vc, rfl⟩ := row_form HR.out
      have hrow := HR.out
      rw [List.take_of_length_le (by rw [HN.out]; exact Nat.le_refl _)] at hrow
      have HL : Hid (j ≤ vc ∧ FlAt wr.heap.size va l wr ∧ ∀ a, va = some a → w.heap.size ≤ a.block) := Lib.hid (by
        refine ⟨?_, FlAt.row hrow HN.out, fun a ha => hrow.lt a.block (by rw [ha]; rfl) |>.1⟩
        rcases hrow.2 with ⟨hv, h0⟩ | ⟨b, cp, cur, hv, hb, hg, hc, _, hsz, htk⟩
        · omega
        · injection hv with e1 _ e3
          omega)
      clear hrow
      go_wp2_with fail
      go_ret
      exact ⟨⟨va, vc, rfl, HL.out.1, HL.out.2.1, HL.out.2.2⟩, HB.out⟩
theorem undraw {B : Nat} {w W : World} (h : Below B w.drew W) : Below B w W := ⟨h.os, h.tape, h.output, h.size, h.block⟩
theorem five_cells {w : World} {k : Nat} {c0 c1 c2 c3 c4 : Value} {t : TypeId} (h : w.heap[k]? = some (.cells #[c0, c1, c2, c3, c4] t (0, 0))) : w.cell? ⟨k, 0, none⟩ = some c0 ∧ w.cell? ⟨k, 1, none⟩ = some c1 ∧ w.cell? ⟨k, 2, none⟩ = some c2 ∧ w.cell? ⟨k, 3, none⟩ = some c3 ∧ w.cell? ⟨k, 4, none⟩ = some c4 :=
  ⟨cell_blk h 0, cell_blk h 1, cell_blk h 2, cell_blk h 3, cell_blk h 4⟩
set_option maxRecDepth 100000 in
set_option maxHeartbeats 4000000 in
theorem of_any {B : Nat} {lg nx sq : Int} {dd : Option Addr} {dn dc : Nat} {ao : Option Addr} {c : Nat} {l : List Fl} {w : World} (h : FlAt B ao l w) (hB : B ≤ w.heap.size) (hc : l.length ≤ c) (hl : l.length ≤ 101) : Calls Try.prog 10 #[.agg #[.int .i64 lg, .int .i64 nx, .int .i64 sq, (.slice dd dn dc), .slice ao l.length c]] w fun e w' => (∃ va vc, e = .returned (.agg #[.int .i64 lg, .int .i64 nx, .int .i64 sq, (.slice dd dn dc), .slice va l.length vc]) ∧ l.length ≤ vc ∧ FlAt w'.heap.size va l w') ∧ Below w.heap.size w w' := by
  obtain ⟨w1, hw1⟩ : ∃ x, x = (w.alloc (.cells #[.int .i64 lg, .int .i64 nx, .int .i64 sq, (.slice dd dn dc), .slice ao l.length c] 25)).alloc (.cells #[.int .i64 0, .int .i64 0, .int .i64 0, .slice none 0 0, .slice none 0 0] 33) := ⟨_, rfl⟩
  have hb1 : Below w.heap.size w w1 := by rw [hw1]; exact ((Below.refl _ _).alloc (Nat.le_refl _) _).alloc (by simp) _
  have hx : w1.heap[w.heap.size]? = some (.cells #[.int .i64 lg, .int .i64 nx, .int .i64 sq, (.slice dd dn dc), .slice ao l.length c] 25 (0, 0)) := by
    rw [hw1, Below.heap_alloc _ _ _ (by simp)]; exact heap_alloc_new w _
  have hy : w1.heap[w.heap.size + 1]? = some (.cells #[.int .i64 0, .int .i64 0, .int .i64 0, .slice none 0 0, .slice none 0 0] 33 (0, 0)) := by
    rw [hw1]
    have := heap_alloc_new (w.alloc (.cells #[.int .i64 lg, .int .i64 nx, .int .i64 sq, (.slice dd dn dc), .slice ao l.length c] 25)) (.cells #[.int .i64 0, .int .i64 0, .int .i64 0, .slice none 0 0, .slice none 0 0] 33)
    simpa using this
  have CF : Hid (∀ W, Below w.heap.size w W → Calls Try.prog 26 #[.slice ao l.length c] W fun e w' => (∃ va vc, e = .returned (.slice va l.length vc) ∧ l.length ≤ vc ∧ FlAt w'.heap.size va l w' ∧ ∀ a, va = some a → W.heap.size ≤ a.block) ∧ Below W.heap.size W w') := Lib.hid fun W hW => files_any (h.under (hW.mono hB)) (Nat.le_trans hB hW.size) hc hl
  have KX : Hid (∀ W, Below w1.heap.size w1 W → W.heap[w.heap.size]? = some (.cells #[.int .i64 lg, .int .i64 nx, .int .i64 sq, (.slice dd dn dc), .slice ao l.length c] 25 (0, 0))) := Lib.hid fun W hW => (hW.block _ (lt_of_heap hx)).trans hx
  have KY : Hid (∀ W, Below w1.heap.size w1 W → W.heap[w.heap.size + 1]? = some (.cells #[.int .i64 0, .int .i64 0, .int .i64 0, .slice none 0 0, .slice none 0 0] 33 (0, 0))) := Lib.hid fun W hW => (hW.block _ (lt_of_heap hy)).trans hy
  have HB1 := Lib.hid hb1
  have HW1 := Lib.hid hw1
  generalize l.length = n at *
  clear hb1 hx hy hw1 h
  go_enter Try.func10, Try.ntmps10
  go_upto_region 1 with fail
  refine wp_letter (fun W => w1 = W) HW1.out ?_
  rintro _ rfl
  obtain ⟨a0, a1, a2, a3, a4⟩ := five_cells (KX.out w1 (Below.refl _ _))
  clear HW1
  go_region_held3 (fun w' => w'.cell? ⟨w.heap.size, 0, none⟩ = some (.int .i64 lg) ∧ w'.cell? ⟨w.heap.size, 1, none⟩ = some (.int .i64 nx) ∧ w'.cell? ⟨w.heap.size, 2, none⟩ = some (.int .i64 sq) ∧ w'.cell? ⟨w.heap.size, 3, none⟩ = some (.slice dd dn dc) ∧ w'.cell? ⟨w.heap.size, 4, none⟩ = some (.slice ao n c))
    (first | (go_keep; done) | exact five_cells (KX.out _ H2.out))
    (first | (go_at_call 26; (with_reducible refine (CF.out _ HB1.out.drew).mono ?_); rintro e w2 ⟨⟨va, vc, rfl, hcap, hfl, hown⟩, hb2⟩; have H2 := Lib.hid (undraw hb2); have HCAP := Lib.hid hcap; have HFL := Lib.hid hfl; have HOWN := Lib.hid hown; clear hb2 hcap hfl hown; have hY := KY.out w2 H2.out; have o0 := cell_blk hY 0; have o1 := cell_blk hY 1; have o2 := cell_blk hY 2; have o3 := cell_blk hY 3; have o4 := cell_blk hY 4; simp only [List.getElem?_toArray] at o0 o1 o2 o3 o4; have p0 := free_blk hY 0; have p1 := free_blk hY 1; have p2 := free_blk hY 2; have p3 := free_blk hY 3; have p4 := free_blk hY 4; clear hY))
  go_wp2_with fail
  have HNE : Hid (∀ a, va = some a → w.heap.size + 1 ≠ a.block) := Lib.hid fun a ha => by
    have h1 := HOWN.out a ha
    have h2 := lt_of_heap (KY.out w1 (Below.refl _ _))
    have h3 : w1.drew.heap.size = w1.heap.size := rfl
    omega
  exact bodyPost_ret (v := .agg #[.int .i64 lg, .int .i64 nx, .int .i64 sq, .slice dd dn dc, .slice va n vc]) (by simp [results, Try.results10, go_sem, o0, o1, o2, o3, o4, p0, p1, p2, p3, p4]) rfl ⟨⟨va, vc, rfl, HCAP.out, by simpa using ((((HFL.out.set ⟨w.heap.size + 1, 0, none⟩ (.int .i64 lg) HNE.out).set ⟨w.heap.size + 1, 1, none⟩ (.int .i64 nx) HNE.out).set ⟨w.heap.size + 1, 2, none⟩ (.int .i64 sq) HNE.out).set ⟨w.heap.size + 1, 3, none⟩ (.slice dd dn dc) HNE.out).set ⟨w.heap.size + 1, 4, none⟩ (.slice va n vc) HNE.out⟩, (((((below_mono HB1.out H2.out (Nat.le_refl _)).setCell (p := ⟨w.heap.size + 1, 0, none⟩) (by simp) _).setCell (p := ⟨w.heap.size + 1, 1, none⟩) (by simp) _).setCell (p := ⟨w.heap.size + 1, 2, none⟩) (by simp) _).setCell (p := ⟨w.heap.size + 1, 3, none⟩) (by simp) _).setCell (p := ⟨w.heap.size + 1, 4, none⟩) (by simp) _⟩
end Go.Proofs.Ytchflkibbdfeaaa
