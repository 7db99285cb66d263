/- Layer 15: what is told of files: their numbers, their span; whether a key is at the bottom. Conditions: those written at each theorem. -/
import Derived.Test.YthodlkacfcnhnaaLvF
namespace Go.Proofs.Ythodlkacfcnhnaa
open Go.RowKit Go.Sort
set_option linter.unusedVariables false
set_option linter.unusedSimpArgs false
def ivs (l : List Int) : List Value := l.map (Value.int .i64)
theorem VAt.row {B T n c : Nat} {va : Option Addr} {l : List Int} {w : World} (h : w.ownsRow B T 1 (.slice va n c) n (ivs l)) (hn : n = l.length) : VAt w.heap.size va (l.map (Value.int .i64)) w := by
  rcases h.2 with ⟨hv, h0⟩ | ⟨b, cp, cur, hv, hb, hg, hc, _, hsz, htk⟩
  · refine ⟨fun hp => by simp at hp; omega, fun a e hp => by simp at hp; omega⟩
  · injection hv with e1 _ e3
    subst e1 e3
    refine ⟨fun _ => ⟨_, rfl⟩, fun a e hp => ?_⟩
    cases e
    refine ⟨lt_of_heap hg, fun i x hx => ?_⟩
    have hi : i < l.length := by have := (List.getElem?_eq_some_iff.1 hx).1; simpa using this
    have ea : (⟨b, 0, none⟩ : Addr).add i = ⟨b, i, none⟩ := by unfold Addr.add; split <;> simp_all
    rw [ea, cell_blk hg, ← hx, show l.map (Value.int .i64) = ivs l from rfl, ← htk, List.getElem?_take_of_lt (by omega)]
    simp
theorem intInfo : (Try.prog.info? 3).map (fun i => (i.zero, i.size, i.bytes)) = some (some (.int .i64 0), 1, 8) := by kernel_rfl
/-- append(l, n), at a slice of the walk's own with one int. -/
theorem wpList_appI {w : World} {ops : Array Oper} {rest : List Oper} {o : Oper} {a : Act} {Q : Exit → Act → World → Prop} (hgd : o.guard = none) (s x : Operand)
    (ho : o.op = .call { callee := .builtin .append, args := #[s, x], argTypes := #[45, 45] })
    (B : Nat) (v : Value) (n : Nat) (l : List Int) (f : Int) (hs : a.eval s = v) (hown : w.ownsRow B 3 1 v n (ivs l)) (g : Nat) (hx : a.eval x = .slice (some ⟨g, 0, none⟩) 1 1)
    (hc : w.cell? ⟨g, 0, none⟩ = some (.int .i64 f)) (hl : n ≤ 1000) (hB : B ≤ w.heap.size)
    (h : ∀ v' w', w'.ownsRow B 3 1 v' (n + 1) (ivs (l ++ [f])) → w.grownBy w' v.ownBlock → wpList Try.prog ops Q rest (a.put o.dst v') w') :
    wpList Try.prog ops Q (o :: rest) a w := by
  obtain ⟨i, hi, hz0, hz1, hz2⟩ := info_parts intInfo
  refine wpList_append_own w hgd s x 45 ho B 3 i (.int .i64 0) 1 8 Try.underlying45 hi hz0 hz1 hz2 rfl (by decide) v n (ivs l) hs hown ⟨g, 0, none⟩ 1 1 [.int .i64 f] hx rfl ?_ ?_ ?_ ?_ hB ?_
  · intro j u hj
    match j, hj with
    | 0, hj => simp at hj; subst hj; exact hc
  · intro u hu
    simp at hu
    subst hu
    rfl
  · unfold maxLen; omega
  · omega
  · intro v' w' h1 h2 _
    refine h v' w' ?_ h2
    have e : ivs (l ++ [f]) = ivs l ++ [.int .i64 f] := by simp [ivs]
    rw [e]
    exact h1
/-- What a slice of ints that the call made is. -/
def GotI (w : World) (l : List Int) (e : Ending) (w' : World) : Prop :=
  ∃ va vc, e = .returned (.slice va l.length vc) ∧ l.length ≤ vc ∧ VAt w'.heap.size va (l.map (Value.int .i64)) w' ∧ ∀ a, va = some a → w.heap.size ≤ a.block
theorem goti_row {w0 w : World} {B T n c : Nat} {va : Option Addr} {l : List Int} (h : w.ownsRow B T 1 (.slice va n c) n (ivs l)) (hn : n = l.length) (hB : w0.heap.size ≤ B) : n ≤ c ∧ VAt w.heap.size va (l.map (Value.int .i64)) w ∧ ∀ a, va = some a → w0.heap.size ≤ a.block := by
  refine ⟨?_, VAt.row h hn, fun a ha => Nat.le_trans hB (h.lt a.block (by rw [ha]; rfl)).1⟩
  rcases h.2 with ⟨hv, h0⟩ | ⟨b, cp, cur, hv, hb, hg, hc, _, hsz, htk⟩
  · omega
  · injection hv with e1 _ e3
    omega
set_option maxRecDepth 100000 in
set_option maxHeartbeats 8000000 in
theorem numbers_any {B : Nat} {ao : Option Addr} {c : Nat} {l : List Fl} {w : World} (h : FlAt B ao l w) (hB : B ≤ w.heap.size) (hc : l.length ≤ c) (hl : l.length ≤ 39) :
    Calls Try.prog 32 #[.slice ao l.length c] w fun e w' => GotI w (l.map Fl.num) e w' ∧ Below w.heap.size w w' := by
  obtain ⟨n, hn⟩ : ∃ n, n = l.length := ⟨_, rfl⟩
  have HN := Lib.hid hn
  rw [← hn] at hc hl ⊢
  have HS : Hid (∀ W, Below w.heap.size w W → FlAt B ao l W) := Lib.hid fun W hW => h.under (hW.mono hB)
  clear hn h
  go_enter Try.func32, Try.ntmps32
  go_upto_region 3 with fail
  go_loopw [3, 8] (fun v i wr => ∃ j : Nat, j ≤ n ∧ i = .int .i64 j ∧ Hid (wr.ownsRow w.heap.size 3 1 v j (ivs ((l.take j).map Fl.num))) ∧ Hid (Below w.heap.size w wr)) (fun _ i _ => n - (intOf i).toNat)
  case atStart => exact ⟨0, by omega, rfl, Lib.hid (World.ownsRow_nil w w.heap.size 3 1), Lib.hid (Below.refl _ _)⟩
  case round =>
    obtain ⟨j, hj, rfl, HR, HB⟩ := hrel
    obtain ⟨va, vc, rfl⟩ := row_form HR.out
    by_cases hlt : j < n
    · have hpos : 0 < l.length := by rw [← HN.out]; omega
      obtain ⟨a, rfl⟩ := (HS.out wr HB.out).there hpos
      obtain ⟨f, hf⟩ : ∃ f, l[j]? = some f := ⟨_, List.getElem?_eq_getElem (by rw [← HN.out]; exact hlt)⟩
      obtain ⟨c0, c1, c2, c3, c4, c5⟩ := ((HS.out wr HB.out).cells a rfl hpos).2 j f hf
      have HT : Hid ((l.take (j + 1)).map Fl.num = (l.take j).map Fl.num ++ [f.num]) := Lib.hid (by rw [List.take_add_one, hf]; simp)
      have HNW := Lib.hid (six_cells (heap_alloc_new wr (.cells #[.int .i64 f.num, .int .i64 f.lvl, .string f.fst, .string f.lst, .int .i64 f.cnt, .int .i64 f.sz] 60)))
      have HB1 := Lib.hid (HB.out.alloc HB.out.size (.cells #[.int .i64 f.num, .int .i64 f.lvl, .string f.fst, .string f.lst, .int .i64 f.cnt, .int .i64 f.sz] 60))
      have HR1 := Lib.hid (HR.out.alloc (.cells #[.int .i64 f.num, .int .i64 f.lvl, .string f.fst, .string f.lst, .int .i64 f.cnt, .int .i64 f.sz] 60))
      clear hpos hf
      obtain ⟨fn, fv, ff, fe, fc, fz⟩ := f
      dsimp only at c0 c1 c2 c3 c4 c5 HNW HB1 HR1 HT
      go_upto_region 5 with fail
      refine wp_letter (fun W => (Below w.heap.size w W ∧ W.ownsRow w.heap.size 3 1 (.slice va j vc) j (ivs ((l.take j).map Fl.num))) ∧ W.cell? ⟨wr.heap.size, 0, none⟩ = some (.int .i64 fn) ∧ W.cell? ⟨wr.heap.size, 1, none⟩ = some (.int .i64 fv) ∧ W.cell? ⟨wr.heap.size, 2, none⟩ = some (.string ff) ∧ W.cell? ⟨wr.heap.size, 3, none⟩ = some (.string fe) ∧ W.cell? ⟨wr.heap.size, 4, none⟩ = some (.int .i64 fc) ∧ W.cell? ⟨wr.heap.size, 5, none⟩ = some (.int .i64 fz)) ⟨⟨HB1.out, HR1.out⟩, HNW.out⟩ ?_
      rintro w2 ⟨⟨hb2, hr2⟩, e0, e1, e2, e3, e4, e5⟩
      have HB2 := Lib.hid hb2
      have HR2 := Lib.hid hr2
      clear hb2 hr2 HNW HB1 HR1 HR HB c0 c1 c2 c3 c4 c5
      have H1 := Lib.hid (cell_blk (heap_alloc_new w2 (.cells #[.int .i64 fn] 3)) 0)
      go_upto_region 6 with (at_builtin; refine wpList_appI rfl _ _ rfl w.heap.size _ j ((l.take j).map Fl.num) fn rfl (HR2.out.alloc _) w2.heap.size rfl (by exact H1.out) (by omega) (by have := HB2.out.size; simp; omega) ?_; intro v' w3 hown3 hgr3)
      have HB3 : Hid (Below w.heap.size w w3) := Lib.hid ((HB2.out.alloc HB2.out.size (.cells #[.int .i64 fn] 3)).grown hgr3 (by have := HB2.out.size; simp; omega) (fun j hj => (HR2.out.lt j hj).1))
      have HR3 := Lib.hid hown3
      clear hown3 hgr3 e0 e1 e2 e3 e4 e5 H1
      go_wp2_with fail
      go_roundw
      case rel => exact ⟨j + 1, by omega, by go_num, Lib.hid (by rw [HT.out]; exact HR3.out), HB3⟩
      case measure => simp [intOf]; omega
    · obtain rfl : j = n := by omega
      have hrow := HR.out
      rw [List.take_of_length_le (by rw [HN.out]; exact Nat.le_refl _)] at hrow
      have HL := Lib.hid (goti_row (w0 := w) hrow (by simp [HN.out]) (Nat.le_refl _))
      have HLN : Hid (j = (l.map Fl.num).length) := Lib.hid (by simp [HN.out])
      clear hrow
      go_wp2_with fail
      go_ret
      exact ⟨⟨va, vc, by rw [← HLN.out]; rfl, by rw [← HLN.out]; exact HL.out.1, HL.out.2.1, HL.out.2.2⟩, HB.out⟩
end Go.Proofs.Ythodlkacfcnhnaa
