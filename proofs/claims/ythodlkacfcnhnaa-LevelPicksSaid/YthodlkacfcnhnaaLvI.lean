/- Layer 15: a level's task. Conditions: those written at each theorem. -/
import Derived.Test.YthodlkacfcnhnaaLvH
namespace Go.Proofs.Ythodlkacfcnhnaa
open Go.RowKit Go.Sort
set_option linter.unusedVariables false
set_option linter.unusedSimpArgs false
/-- The boxes of Take: the version, and the task that is answered. -/
structure TkAt (w0 : World) (lg nx sq : Int) (bo : Option Addr) (k c : Nat) (W : World) : Prop where
  ver : W.heap[w0.heap.size]? = some (.cells #[.int .i64 lg, .int .i64 nx, .int .i64 sq, .slice bo k c] 34 (0, 0))
  tsk : W.heap[w0.heap.size + 1]? = some (.cells #[.int .i64 0, .slice none 0 0, .slice none 0 0, .bool false] 47 (0, 0))
  bel : Below w0.heap.size w0 W
theorem TkAt.next {w0 : World} {lg nx sq : Int} {bo : Option Addr} {k c : Nat} {W W' : World} (h : TkAt w0 lg nx sq bo k c W) (g : Below W.heap.size W W') : TkAt w0 lg nx sq bo k c W' :=
  ⟨(g.block _ (lt_of_heap h.ver)).trans h.ver, (g.block _ (lt_of_heap h.tsk)).trans h.tsk, below_mono h.bel g (Nat.le_refl _)⟩
theorem TkAt.made (w0 : World) (lg nx sq : Int) (bo : Option Addr) (k c : Nat) : TkAt w0 lg nx sq bo k c ((w0.alloc (.cells #[.int .i64 lg, .int .i64 nx, .int .i64 sq, .slice bo k c] 34)).alloc (.cells #[.int .i64 0, .slice none 0 0, .slice none 0 0, .bool false] 47)) := by
  have h1 : (w0.alloc (.cells #[.int .i64 lg, .int .i64 nx, .int .i64 sq, .slice bo k c] 34)).heap.size = w0.heap.size + 1 := by simp
  refine ⟨?_, ?_, ((Below.refl w0.heap.size w0).alloc (Nat.le_refl _) _).alloc (by omega) _⟩
  · exact (((Below.refl _ _).alloc (Nat.le_refl _) _).block w0.heap.size (by omega)).trans (heap_alloc_new w0 _)
  · rw [← h1]; exact heap_alloc_new _ _
/-- What Take answers. -/
def TaskIs (w : World) (lv : Int) (from_ into : List Int) (mv ok : Bool) (e : Ending) (w' : World) : Prop :=
  ∃ fa fc ia ic, e = .returned (.tuple #[.agg #[.int .i64 lv, .slice fa from_.length fc, .slice ia into.length ic, .bool mv], .bool ok]) ∧ from_.length ≤ fc ∧ into.length ≤ ic ∧ VAt w'.heap.size fa (from_.map (Value.int .i64)) w' ∧ VAt w'.heap.size ia (into.map (Value.int .i64)) w' ∧ (∀ a, fa = some a → w.heap.size ≤ a.block) ∧ (∀ a, ia = some a → w.heap.size ≤ a.block)
theorem VAt.nil (B : Nat) (w : World) : VAt B none [] w := ⟨fun h => by simp at h, fun a e => by cases e⟩
theorem VAt.set {B : Nat} {ao : Option Addr} {l : List Value} {w : World} (h : VAt B ao l w) (p : Addr) (v : Value) (hne : ∀ a, ao = some a → p.block ≠ a.block) : VAt B ao l (w.setCell p v) :=
  ⟨h.there, fun a e hp => ⟨(h.cells a e hp).1, fun i x hi => by
    have hb : p.block ≠ (a.add i).block := by rw [add_blk]; exact hne a e
    rw [World.cell?_setCell_far _ _ _ _ hb]; exact (h.cells a e hp).2 i x hi⟩⟩
theorem VAt.more {B C : Nat} {ao : Option Addr} {l : List Value} {w : World} (h : VAt B ao l w) (k : B ≤ C) : VAt C ao l w :=
  ⟨h.there, fun a e hp => ⟨Nat.lt_of_lt_of_le (h.cells a e hp).1 k, (h.cells a e hp).2⟩⟩
set_option maxRecDepth 100000 in
set_option maxHeartbeats 8000000 in
theorem take_out {lg nx sq : Int} {bo : Option Addr} {k c : Nat} {w : World} (lv : Int) (ho : lv < 0 ∨ 4 ≤ lv) :
    Calls Try.prog 20 #[.agg #[.int .i64 lg, .int .i64 nx, .int .i64 sq, .slice bo k c], .int .i64 lv] w fun e w' => TaskIs w 0 [] [] false false e w' ∧ Below w.heap.size w w' := by
  have HM := Lib.hid (TkAt.made w lg nx sq bo k c)
  obtain ⟨z, hz⟩ : ∃ z, z = w.heap.size + 1 := ⟨_, rfl⟩
  have HZ := Lib.hid hz
  go_enter Try.func20, Try.ntmps20
  go_upto_region 1 with fail
  refine wp_letter (fun W => TkAt w lg nx sq bo k c W) HM.out ?_
  clear HM
  intro W hT
  have HT := Lib.hid hT
  rw [← hz]
  have b := hT.tsk
  rw [← hz] at b
  have d0 : W.cell? ⟨z, 0, none⟩ = some (.int .i64 0) := cell_blk b 0
  have d1 : W.cell? ⟨z, 1, none⟩ = some (.slice none 0 0) := cell_blk b 1
  have d2 : W.cell? ⟨z, 2, none⟩ = some (.slice none 0 0) := cell_blk b 2
  have d3 : W.cell? ⟨z, 3, none⟩ = some (.bool false) := cell_blk b 3
  have p0 : W.frozen? ⟨z, 0, none⟩ = false := free_blk b 0
  have p1 : W.frozen? ⟨z, 1, none⟩ = false := free_blk b 1
  have p2 : W.frozen? ⟨z, 2, none⟩ = false := free_blk b 2
  have p3 : W.frozen? ⟨z, 3, none⟩ = false := free_blk b 3
  have HL := Lib.hid (lt_of_heap b)
  clear hz hT b
  rcases Int.lt_or_le lv 0 with h1 | h1
  · clear ho
    go_wp2_with fail
    exact bodyPost_ret (v := .tuple #[.agg #[.int .i64 0, .slice none 0 0, .slice none 0 0, .bool false], .bool false]) (by simp [results, Try.results20, go_sem, d0, d1, d2, d3, p0, p1, p2, p3, HL.out]) rfl ⟨⟨none, 0, none, 0, rfl, Nat.le_refl _, Nat.le_refl _, VAt.nil _ _, VAt.nil _ _, (fun a h => by cases h), (fun a h => by cases h)⟩, (((HT.out.bel.setCell (p := ⟨z, 0, none⟩) (by have := HZ.out; simp; omega) _).setCell (p := ⟨z, 1, none⟩) (by have := HZ.out; simp; omega) _).setCell (p := ⟨z, 2, none⟩) (by have := HZ.out; simp; omega) _).setCell (p := ⟨z, 3, none⟩) (by have := HZ.out; simp; omega) _⟩
  · have h2 : 4 ≤ lv := by omega
    clear ho
    go_wp2_with fail
    exact bodyPost_ret (v := .tuple #[.agg #[.int .i64 0, .slice none 0 0, .slice none 0 0, .bool false], .bool false]) (by simp [results, Try.results20, go_sem, d0, d1, d2, d3, p0, p1, p2, p3, HL.out]) rfl ⟨⟨none, 0, none, 0, rfl, Nat.le_refl _, Nat.le_refl _, VAt.nil _ _, VAt.nil _ _, (fun a h => by cases h), (fun a h => by cases h)⟩, (((HT.out.bel.setCell (p := ⟨z, 0, none⟩) (by have := HZ.out; simp; omega) _).setCell (p := ⟨z, 1, none⟩) (by have := HZ.out; simp; omega) _).setCell (p := ⟨z, 2, none⟩) (by have := HZ.out; simp; omega) _).setCell (p := ⟨z, 3, none⟩) (by have := HZ.out; simp; omega) _⟩
theorem set4 {ao : Option Addr} {l : List Value} {W : World} {z : Nat} (h : VAt W.heap.size ao l W) (hne : ∀ a, ao = some a → z < a.block) (x0 x1 x2 x3 : Value) : VAt ((((W.setCell ⟨z, 0, none⟩ x0).setCell ⟨z, 1, none⟩ x1).setCell ⟨z, 2, none⟩ x2).setCell ⟨z, 3, none⟩ x3).heap.size ao l ((((W.setCell ⟨z, 0, none⟩ x0).setCell ⟨z, 1, none⟩ x1).setCell ⟨z, 2, none⟩ x2).setCell ⟨z, 3, none⟩ x3) := by
  have hn : ∀ a, ao = some a → z ≠ a.block := fun a ha => by have := hne a ha; omega
  have := (((h.set ⟨z, 0, none⟩ x0 hn).set ⟨z, 1, none⟩ x1 hn).set ⟨z, 2, none⟩ x2 hn).set ⟨z, 3, none⟩ x3 hn
  exact this.more (by simp)
/-- The file with the least number, the first of these. -/
def eldF : List Fl → List Fl
  | [] => []
  | f :: t => [t.foldl (fun e g => if g.num < e.num then g else e) f]
/-- What a level's task takes. -/
def fromL (L : List Fl) (lv : Int) : List Fl := if lv = 0 then L.filter (byLvl lv) else eldF (L.filter (byLvl lv))
def intoL (L : List Fl) (lv : Int) : List Fl := (L.filter (byLvl (lv + 1))).filter (wiB (spanB (fromL L lv)).1 (spanB (fromL L lv)).2)
theorem eldF_take {l : List Fl} {f : Fl} (h0 : l[0]? = some f) {j : Nat} {e g : Fl} (he : eldF (l.take (max j 1)) = [e]) (hg : l[j]? = some g) : eldF (l.take (max (j + 1) 1)) = [if g.num < e.num then g else e] := by
  cases l with
  | nil => simp at h0
  | cons x t =>
    simp at h0
    subst h0
    cases j with
    | zero =>
      simp at hg
      subst hg
      simp [eldF] at he
      subst he
      simp [eldF]
    | succ k =>
      have e1 : max (k + 1) 1 = k + 1 := by omega
      have e2 : max (k + 1 + 1) 1 = k + 1 + 1 := by omega
      rw [e1] at he
      rw [e2]
      have ht : t[k]? = some g := by simpa using hg
      rw [List.take_succ_cons] at he ⊢
      rw [List.take_add_one, ht]
      simp only [eldF, Option.toList, List.foldl_append, List.foldl_cons, List.foldl_nil] at he ⊢
      injection he with he
      rw [he]
set_option maxRecDepth 100000 in
set_option maxHeartbeats 8000000 in
theorem take_none {B : Nat} {lg nx sq : Int} {bo : Option Addr} {c : Nat} {L : List Fl} {w : World} (h : FlAt B bo L w) (hB : B ≤ w.heap.size) (hc : L.length ≤ c) (hl : L.length ≤ 39) (hs : Srt L) (lv : Int) (h0 : 0 ≤ lv) (h4 : lv < 4) (hn : L.filter (byLvl lv) = []) :
    Calls Try.prog 20 #[.agg #[.int .i64 lg, .int .i64 nx, .int .i64 sq, .slice bo L.length c], .int .i64 lv] w fun e w' => TaskIs w 0 [] [] false false e w' ∧ Below w.heap.size w w' := by
  have CL : Hid (∀ W, Below w.heap.size w W → Calls Try.prog 31 #[.agg #[.int .i64 lg, .int .i64 nx, .int .i64 sq, .slice bo L.length c], .int .i64 lv] W fun e w' => (∃ va vc, e = .returned (.slice va 0 vc)) ∧ Below W.heap.size W w') := Lib.hid fun W hW => (level_any (h.under (hW.mono hB)) (by have := hW.size; omega) hc hl hs lv).mono (by
    rw [hn]
    rintro e w' ⟨⟨va, vc, rfl, _⟩, hb⟩
    exact ⟨⟨va, vc, rfl⟩, hb⟩)
  obtain ⟨k, hk⟩ : ∃ k, k = L.length := ⟨_, rfl⟩
  rw [← hk] at CL ⊢
  clear h hB hc hl hs hn hk
  have HM := Lib.hid (TkAt.made w lg nx sq bo k c)
  obtain ⟨z, hz⟩ : ∃ z, z = w.heap.size + 1 := ⟨_, rfl⟩
  have HZ := Lib.hid hz
  have h5 : ¬ lv < 0 := by omega
  have h6 : ¬ 4 ≤ lv := by omega
  go_enter Try.func20, Try.ntmps20
  go_upto_region 1 with fail
  refine wp_letter (fun W => TkAt w lg nx sq bo k c W) HM.out ?_
  clear HM
  intro W hT
  have HT := Lib.hid hT
  rw [← hz]
  obtain ⟨v0, v1, v2, v3⟩ := four_cells hT.ver
  clear hz hT
  go_upto_region 4 with (go_at_call 31; (with_reducible refine (CL.out _ HT.out.bel).mono ?_); rintro e w1 ⟨⟨ao, cc, rfl⟩, hb⟩; have HT1 := Lib.hid (HT.out.next hb); clear hb v0 v1 v2 v3 CL)
  have b := HT1.out.tsk
  rw [← HZ.out] at b
  have d0 : w1.cell? ⟨z, 0, none⟩ = some (.int .i64 0) := cell_blk b 0
  have d1 : w1.cell? ⟨z, 1, none⟩ = some (.slice none 0 0) := cell_blk b 1
  have d2 : w1.cell? ⟨z, 2, none⟩ = some (.slice none 0 0) := cell_blk b 2
  have d3 : w1.cell? ⟨z, 3, none⟩ = some (.bool false) := cell_blk b 3
  have p0 : w1.frozen? ⟨z, 0, none⟩ = false := free_blk b 0
  have p1 : w1.frozen? ⟨z, 1, none⟩ = false := free_blk b 1
  have p2 : w1.frozen? ⟨z, 2, none⟩ = false := free_blk b 2
  have p3 : w1.frozen? ⟨z, 3, none⟩ = false := free_blk b 3
  have HL := Lib.hid (lt_of_heap b)
  clear b
  go_wp2_with fail
  exact bodyPost_ret (v := .tuple #[.agg #[.int .i64 0, .slice none 0 0, .slice none 0 0, .bool false], .bool false]) (by simp [results, Try.results20, go_sem, d0, d1, d2, d3, p0, p1, p2, p3, HL.out]) rfl ⟨⟨none, 0, none, 0, rfl, Nat.le_refl _, Nat.le_refl _, VAt.nil _ _, VAt.nil _ _, (fun a h => by cases h), (fun a h => by cases h)⟩, (((HT1.out.bel.setCell (p := ⟨z, 0, none⟩) (by have := HZ.out; simp; omega) _).setCell (p := ⟨z, 1, none⟩) (by have := HZ.out; simp; omega) _).setCell (p := ⟨z, 2, none⟩) (by have := HZ.out; simp; omega) _).setCell (p := ⟨z, 3, none⟩) (by have := HZ.out; simp; omega) _⟩
end Go.Proofs.Ythodlkacfcnhnaa
