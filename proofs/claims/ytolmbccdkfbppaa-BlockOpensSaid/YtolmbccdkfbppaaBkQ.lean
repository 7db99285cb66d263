/- A block's pairs are read one by one: what is handed in, and what it makes. Conditions: those written at each theorem. -/
import Derived.Test.YtolmbccdkfbppaaBkO
import Derived.Deep.LoopGhost
namespace Go.Proofs.Ytolmbccdkfbppaa
open Go.RowKit
set_option linter.unusedVariables false
set_option linter.unusedSimpArgs false

/-- What Open has made so far: the block bb, the box bx of its pointer, the builder bu. -/
structure OAt (w0 : World) (bb bx bu : Nat) (ps : List PB) (S : BS) (W : World) : Prop where
  blk : ∃ v, W.heap[bb]? = some (.cells #[v] 70 (0, 0)) ∧ W.ownsRow w0.heap.size 46 2 v ps.length (pCells ps)
  box : W.heap[bx]? = some (.cells #[.pointer (some ⟨bb, 0, none⟩)] 38 (0, 0))
  bld : BkAt bu bu S W
  o1 : w0.heap.size ≤ bb
  o2 : bb < bu
  o3 : bx < bu
  o4 : w0.heap.size ≤ bx
  bel : Below w0.heap.size w0 W
theorem OAt.size {w0 W : World} {bb bx bu : Nat} {ps : List PB} {S : BS} (h : OAt w0 bb bx bu ps S W) : bu < W.heap.size := h.bld.lt
theorem OAt.under {w0 W W' : World} {bb bx bu : Nat} {ps : List PB} {S : BS} (h : OAt w0 bb bx bu ps S W) (k : Below W.heap.size W W') : OAt w0 bb bx bu ps S W' := by
  obtain ⟨v, hb, hr⟩ := h.blk
  exact ⟨⟨v, (k.block bb (lt_of_heap hb)).trans hb, row_stay hr fun g hg => k.block g (hr.lt g hg).2⟩, (k.block bx (lt_of_heap h.box)).trans h.box, h.bld.under k, h.o1, h.o2, h.o3, h.o4, below_mono h.bel k (Nat.le_refl _)⟩
/-- A reader goes on. -/
theorem OAt.rd {w0 W W' : World} {bb bx bu r : Nat} {ps : List PB} {S : BS} {s : ByteArray} {bad : Bool} (h : OAt w0 bb bx bu ps S W) (hr : RdAt r s bad W) (g : W.grownBy W' (some r)) (hlo : w0.heap.size ≤ r) : OAt w0 bb bx bu ps S W' := by
  obtain ⟨v, hb, hrow⟩ := h.blk
  have hne : ∀ (k : Nat) (cs : Array Value) (t : TypeId), W.heap[k]? = some (.cells cs t (0, 0)) → t ≠ 87 → W'.heap[k]? = W.heap[k]? := fun (k : Nat) (cs : Array Value) (t : TypeId) hk ht => g.block k (lt_of_heap hk) (fun e => by
    injection e with e
    subst e
    unfold RdAt at hr
    rw [hr] at hk
    injection hk with hk
    injection hk with _ h2 _
    exact ht h2.symm)
  refine ⟨⟨v, (hne bb _ _ hb (by decide)).trans hb, row_stay hrow fun x hx => ?_⟩, (hne bx _ _ h.box (by decide)).trans h.box, h.bld.stay fun k hk ⟨cs, t, hc, ht⟩ => hne k cs t hc (by rcases ht with rfl | rfl | rfl <;> decide), h.o1, h.o2, h.o3, h.o4, ?_⟩
  · obtain ⟨c, hc⟩ := row_blk hrow hx
    exact hne x _ _ hc (by decide)
  · exact ⟨g.os.trans h.bel.os, g.tape.trans h.bel.tape, g.output.trans h.bel.output, Nat.le_trans h.bel.size g.size, fun k hk => (g.block k (Nat.lt_of_lt_of_le hk h.bel.size) (fun e => by injection e with e; omega)).trans (h.bel.block k hk)⟩
/-- The builder changes. -/
theorem OAt.bld' {w0 W W' : World} {bb bx bu : Nat} {ps : List PB} {S S' : BS} (h : OAt w0 bb bx bu ps S W) (hb' : BkAt bu bu S' W') (k : Bek bu W W') : OAt w0 bb bx bu ps S' W' := by
  obtain ⟨v, hb, hrow⟩ := h.blk
  refine ⟨⟨v, (k.block bb (lt_of_heap hb) (.inl h.o2)).trans hb, k.row hrow (by decide) (by decide) (by decide)⟩, (k.block bx (lt_of_heap h.box) (.inl h.o3)).trans h.box, hb', h.o1, h.o2, h.o3, h.o4, ?_⟩
  exact h.bel.trans ((k.below (Nat.le_of_lt h.size)).mono (by have := h.o1; have := h.o2; omega))
theorem kpInfo : (Try.prog.info? 46).map (fun i => (i.zero, i.size, i.bytes)) = some (some (.agg #[.string ⟨#[]⟩, .string ⟨#[]⟩]), 2, 32) := by kernel_rfl
/-- A pair behind a row of pairs, as one step of a region that draws its order. -/
theorem step_pair {ops : Array Oper} {o : Oper} {a : Act} {K : Act → World → Prop} {Q : Exit → Act → World → Prop} {E : Prop} {B g n : Nat} {v : Value} {ps : List PB} {w : World} {p : PB} (hn : n = ps.length)
    (hg : o.guard = none) (s x : Operand) (hop : o.op = Op.call { callee := Callee.builtin Builtin.append, args := #[s, x], argTypes := #[44, 44] })
    (hs : a.eval s = v) (hx : a.eval x = .slice (some ⟨g, 0, none⟩) 1 1) (hown : w.ownsRow B 46 2 v n (pCells ps)) (hc : w.cell? ⟨g, 0, none⟩ = some (.string p.k) ∧ w.cell? ⟨g, 1, none⟩ = some (.string p.v)) (hl : n ≤ 100000) (hB : B ≤ w.heap.size)
    (hK : ∀ v' w2, Hid (w2.ownsRow B 46 2 v' (n + 1) (pCells (ps ++ [p]))) → Hid (w.grownBy w2 v.ownBlock) → K (a.put o.dst v') w2) :
    if Region.wanted o (yielded ops a.tmps) = true then Oper.wp Try.prog o a w K Q else E := by
  obtain ⟨i0, hi, he⟩ := Option.map_eq_some_iff.1 kpInfo
  simp only [Prod.mk.injEq] at he
  have hw : Region.wanted o (yielded ops a.tmps) = true := by simp [Region.wanted, hg]
  rw [if_pos hw]
  obtain ⟨v', w2, hr, hown', hgrow, _⟩ := run_append_own (P := Try.prog) w B 44 o.type 46 i0 (.agg #[.string ⟨#[]⟩, .string ⟨#[]⟩]) 2 32 Try.underlying44 hi he.1 he.2.1 he.2.2 rfl (by decide) v n (pCells ps) hown ⟨g, 0, none⟩ 1 1 [.string p.k, .string p.v] rfl (fun j u hj => by
    match j, hj with
    | 0, hj => simp at hj; subst hj; exact hc.1
    | 1, hj => simp at hj; subst hj; exact hc.2) (fun u hu => by
      simp at hu
      rcases hu with rfl | rfl <;> rfl) (by unfold maxLen; omega) (by omega) hB
  unfold Oper.wp execOp
  simp only [hop, resolve, invoke, builtin, Sem.run_bind, Sem.run_pure, Result.andThen_ok, List.map_toArray, List.map_cons, List.map_nil, hs, hx, hr]
  refine hK v' w2 (Lib.hid ?_) (Lib.hid hgrow)
  rw [pCells_snoc]
  exact hown'
def VisP (w0 : World) (bb bx bu : Nat) (ps : List PB) (p : PB) (W : World) (e : Ending) (W' : World) : Prop :=
  ∃ ok : Bool, e = .returned (.bool ok) ∧ (ok = true → rightP p = true ∧ leS p.k (lastB ps) = false ∧ ps.length < 4096 ∧ OAt w0 bb bx bu (ps ++ [p]) (foldB (ps ++ [p])) W') ∧
    (ok = false → ¬ (rightP p = true ∧ leS p.k (lastB ps) = false ∧ ps.length < 4096)) ∧ Below w0.heap.size w0 W' ∧ W.heap.size ≤ W'.heap.size ∧ ∀ r s b, bu < r → RdAt r s b W → RdAt r s b W'
set_option maxRecDepth 100000 in
set_option maxHeartbeats 4000000 in
theorem visit_any {w0 W : World} {bb bx bu : Nat} {ps : List PB} (h : OAt w0 bb bx bu ps (foldB ps) W) (hr : Rise ps) (p : PB) (hx : p.k.size ≤ maxLen ∧ p.v.size ≤ maxLen) :
    Calls Try.prog 37 #[.agg #[.string p.k, .string p.v], .pointer (some ⟨bx, 0, none⟩), .pointer (some ⟨bu, 0, none⟩)] W (VisP w0 bb bx bu ps p W) := by
  obtain ⟨K, hK⟩ : ∃ K, K = p.k := ⟨_, rfl⟩
  obtain ⟨V, hV⟩ : ∃ V, V = p.v := ⟨_, rfl⟩
  have HPE : Hid (p = ⟨K, V⟩) := Lib.hid (by rw [hK, hV])
  have HX := Lib.hid hx
  have HRI := Lib.hid hr
  have H0 := Lib.hid h
  rw [← hK, ← hV]
  obtain ⟨n, hn⟩ : ∃ n, n = ps.length := ⟨_, rfl⟩
  have HN := Lib.hid hn
  have hn4 := hr.len
  obtain ⟨v, hb, hrow⟩ := h.blk
  obtain ⟨va, vc, rfl⟩ := row_form hrow
  rw [← hn] at hb hrow hn4
  obtain ⟨W1, hW1⟩ : ∃ W1, W1 = W.alloc (.cells #[.string K, .string V] 46) := ⟨_, rfl⟩
  have hbel : Below W.heap.size W W1 := by rw [hW1]; exact (Below.refl _ _).alloc (Nat.le_refl _) _
  have hnew : W1.heap[W.heap.size]? = some (.cells #[.string K, .string V] 46 (0, 0)) := by rw [hW1]; exact heap_alloc_new W _
  have H1 := Lib.hid (h.under hbel)
  have HBL := Lib.hid hbel
  have hb1 : W1.heap[bb]? = some (.cells #[.slice va n vc] 70 (0, 0)) := (hbel.block bb (lt_of_heap hb)).trans hb
  have hx1 : W1.heap[bx]? = some (.cells #[.pointer (some ⟨bb, 0, none⟩)] 38 (0, 0)) := (hbel.block bx (lt_of_heap h.box)).trans h.box
  have hrow1 : W1.ownsRow w0.heap.size 46 2 (.slice va n vc) n (pCells ps) := row_stay hrow fun g hg => hbel.block g (hrow.lt g hg).2
  have HB1 := Lib.hid hb1
  have HX1 := Lib.hid hx1
  have HR1 := Lib.hid hrow1
  have HNEW := Lib.hid hnew
  have x0 : W1.cell? ⟨bx, 0, none⟩ = some (.pointer (some ⟨bb, 0, none⟩)) := cell_blk hx1 0
  have y0 : W1.cell? ⟨bb, 0, none⟩ = some (.slice va n vc) := cell_blk hb1 0
  have p0 : W1.cell? ⟨W.heap.size, 0, none⟩ = some (.string K) := cell_blk hnew 0
  have p1 : W1.cell? ⟨W.heap.size, 1, none⟩ = some (.string V) := cell_blk hnew 1
  have x0' : W1.drew.cell? ⟨bx, 0, none⟩ = some (.pointer (some ⟨bb, 0, none⟩)) := x0
  have y0' : W1.drew.cell? ⟨bb, 0, none⟩ = some (.slice va n vc) := y0
  have p0' : W1.drew.cell? ⟨W.heap.size, 0, none⟩ = some (.string K) := p0
  have p1' : W1.drew.cell? ⟨W.heap.size, 1, none⟩ = some (.string V) := p1
  have z1 : (W1.alloc (.cells #[.string K, .string V] 46)).cell? ⟨bb, 0, none⟩ = some (.slice va n vc) := (((Below.refl W1.heap.size W1).alloc (Nat.le_refl _) (.cells #[.string K, .string V] 46)).cell (p := ⟨bb, 0, none⟩) (lt_of_heap hb1)).trans y0
  have z2 : (W1.alloc (.cells #[.string K, .string V] 46)).cell? ⟨bx, 0, none⟩ = some (.pointer (some ⟨bb, 0, none⟩)) := (((Below.refl W1.heap.size W1).alloc (Nat.le_refl _) (.cells #[.string K, .string V] 46)).cell (p := ⟨bx, 0, none⟩) (lt_of_heap hx1)).trans x0
  -- the world in which the append is done
  have Q1 : Hid ((W1.drew.alloc (.cells #[.string K, .string V] 46)).ownsRow w0.heap.size 46 2 (.slice va n vc) n (pCells ps)) := Lib.hid (World.ownsRow.alloc (w := W1.drew) hrow1 _)
  have hnew2 : (W1.drew.alloc (.cells #[.string K, .string V] 46)).heap[W1.heap.size]? = some (.cells #[.string K, .string V] 46 (0, 0)) := heap_alloc_new W1.drew _
  have QN : Hid ((W1.drew.alloc (.cells #[.string K, .string V] 46)).cell? ⟨W1.heap.size, 0, none⟩ = some (.string p.k) ∧ (W1.drew.alloc (.cells #[.string K, .string V] 46)).cell? ⟨W1.heap.size, 1, none⟩ = some (.string p.v)) := Lib.hid (by rw [← hK, ← hV]; exact ⟨cell_blk hnew2 0, cell_blk hnew2 1⟩)
  have hb2 : Below W1.heap.size W1 (W1.drew.alloc (.cells #[.string K, .string V] 46)) := ((Below.refl _ _).drew).alloc (Nat.le_refl _) _
  have HB2 := Lib.hid hb2
  have BD : Hid (w0.heap.size ≤ (W1.drew.alloc (.cells #[.string K, .string V] 46)).heap.size) := Lib.hid (Nat.le_trans H1.out.bel.size hb2.size)
  obtain ⟨WA, hWA⟩ : ∃ WA, WA = W1.drew.alloc (.cells #[.string K, .string V] 46) := ⟨_, rfl⟩
  have hgo : ∀ w2, WA.grownBy w2 (Value.slice va n vc).ownBlock → (∀ (k : Nat) (cs : Array Value) (t : TypeId), W1.heap[k]? = some (.cells cs t (0, 0)) → t ≠ 46 → w2.heap[k]? = some (.cells cs t (0, 0))) ∧ w2.heap[W.heap.size]? = some (.cells #[.string K, .string V] 46 (0, 0)) := fun w2 G => by
    have hb2' := HB2.out
    rw [← hWA] at hb2'
    refine ⟨fun k cs t hk ht => ?_, ?_⟩
    · refine ((G.block k (Nat.lt_of_lt_of_le (lt_of_heap hk) hb2'.size) (fun e => ?_)).trans (hb2'.block k (lt_of_heap hk))).trans hk
      obtain ⟨c, hc⟩ := row_blk hrow1 e.symm
      rw [hk] at hc
      injection hc with hc
      injection hc with _ h5 _
      exact ht h5
    · refine ((G.block W.heap.size (Nat.lt_of_lt_of_le (lt_of_heap hnew) hb2'.size) (fun e => ?_)).trans (hb2'.block _ (lt_of_heap hnew))).trans hnew
      have := (hrow.lt W.heap.size e.symm).2
      omega
  have HGO : Hid (∀ w2, WA.grownBy w2 (Value.slice va n vc).ownBlock → w2.heap[bb]? = some (.cells #[.slice va n vc] 70 (0, 0)) ∧ w2.heap[bx]? = some (.cells #[.pointer (some ⟨bb, 0, none⟩)] 38 (0, 0))) := Lib.hid fun w2 G => ⟨(hgo w2 G).1 _ _ _ hb1 (by decide), (hgo w2 G).1 _ _ _ hx1 (by decide)⟩
  have HFI : Hid (∀ w2 va2 vc2, WA.grownBy w2 (Value.slice va n vc).ownBlock → w2.ownsRow w0.heap.size 46 2 (.slice va2 (n + 1) vc2) (n + 1) (pCells (ps ++ [p])) →
      OAt w0 bb bx bu (ps ++ [p]) (foldB ps) (w2.setCell ⟨bb, 0, none⟩ (.slice va2 (n + 1) vc2)) ∧ ((w2.setCell ⟨bb, 0, none⟩ (.slice va2 (n + 1) vc2)).cell? ⟨W.heap.size, 0, none⟩ = some (.string K) ∧ (w2.setCell ⟨bb, 0, none⟩ (.slice va2 (n + 1) vc2)).cell? ⟨W.heap.size, 1, none⟩ = some (.string V)) ∧
      (W.heap.size ≤ (w2.setCell ⟨bb, 0, none⟩ (.slice va2 (n + 1) vc2)).heap.size ∧ ∀ r s b, bu < r → RdAt r s b W → RdAt r s b (w2.setCell ⟨bb, 0, none⟩ (.slice va2 (n + 1) vc2)))) := Lib.hid fun w2 va2 vc2 G R => by
    obtain ⟨g1, g2⟩ := hgo w2 G
    have hbb := g1 _ _ _ hb1 (by decide)
    have ho : ∀ k, k ≠ bb → (w2.setCell ⟨bb, 0, none⟩ (.slice va2 (n + 1) vc2)).heap[k]? = w2.heap[k]? := fun k hk => Below.heap_setCell _ _ _ _ hk
    have hne : W.heap.size ≠ bb := fun e => by have := lt_of_heap hb; omega
    have hbw : Below w0.heap.size w0 w2 := by
      have h1 := H1.out.bel.trans (HB2.out.mono H1.out.bel.size)
      rw [← hWA] at h1
      exact h1.grown G h1.size (fun g hg => (hrow1.lt g hg).1)
    have hn2 : w2.heap[W.heap.size]? = (w2.setCell ⟨bb, 0, none⟩ (.slice va2 (n + 1) vc2)).heap[W.heap.size]? := (ho _ hne).symm
    rw [g2] at hn2
    have hsz : W.heap.size ≤ w2.heap.size := by
      have h1 := HB2.out.size
      rw [← hWA] at h1
      exact Nat.le_trans (Nat.le_trans hbel.size h1) G.size
    refine ⟨⟨⟨.slice va2 (n + 1) vc2, by rw [heap_set_at _ hbb]; rfl, ?_⟩, (ho bx (fun e => ?_)).trans (g1 _ _ _ hx1 (by decide)), (H1.out.bld.stay fun k hk ⟨cs, t, hc, ht⟩ => ?_), h.o1, h.o2, h.o3, h.o4, hbw.setCell (p := ⟨bb, 0, none⟩) h.o1 _⟩, ⟨cell_blk hn2.symm 0, cell_blk hn2.symm 1⟩, by simpa using hsz, fun r s b hbr hrd => ?_⟩
    · have e : (ps ++ [p]).length = n + 1 := by rw [List.length_append, ← hn]; rfl
      rw [e]
      refine row_stay R fun g hg => ho g (fun e2 => ?_)
      subst e2
      obtain ⟨c, hc⟩ := row_blk R hg
      rw [hbb] at hc
      injection hc with hc
      injection hc with _ h5 _
      exact absurd h5 (by decide)
    · subst e
      rw [hb1] at hx1
      injection hx1 with h3
      injection h3 with _ h5 _
      exact absurd h5 (by decide)
    · have hk2 : k ≠ bb := fun e => by
        subst e
        rw [hb1] at hc
        injection hc with hc
        injection hc with _ h5 _
        subst h5
        rcases ht with ht | ht | ht <;> exact absurd ht (by decide)
      rw [ho k hk2, g1 _ _ _ hc (by rcases ht with rfl | rfl | rfl <;> decide), hc]
    · unfold RdAt at hrd ⊢
      have h2 := h.o2
      rw [ho r (by omega)]
      exact g1 _ _ _ ((hbel.block r (lt_of_heap hrd)).trans hrd) (by decide)
  rw [← hWA] at Q1 QN BD
  have HWA := Lib.hid hWA
  clear h hr hx hK hV hn hb hrow hbel hnew hb1 hx1 hrow1 hnew2 hb2 hgo
  go_enter Try.func37, Try.ntmps37
  go_upto_region 1 with fail
  refine wp_letter (fun X => W1 = X) hW1 ?_
  rintro _ rfl
  clear hW1
  go_cut [] (fun wx => Hid (OAt w0 bb bx bu (ps ++ [p]) (foldB ps) wx) ∧ Hid (wx.cell? ⟨W.heap.size, 0, none⟩ = some (.string K) ∧ wx.cell? ⟨W.heap.size, 1, none⟩ = some (.string V)) ∧ Hid (W.heap.size ≤ wx.heap.size ∧ ∀ r s b, bu < r → RdAt r s b W → RdAt r s b wx))
  case first =>
    rw [HWA.out] at Q1 QN BD HGO HFI
    clear HWA hWA
    go_region_law (refine step_pair (B := w0.heap.size) (g := W1.heap.size) (ps := ps) (p := p) HN.out rfl (.tmp 9) (.tmp 11) rfl (by simp [Act.eval, Act.put]) (by simp [Act.eval, Act.put]) Q1.out QN.out (by omega) BD.out ?_; intro v' w2 R G; obtain ⟨va2, vc2, rfl⟩ := row_form R.out; obtain ⟨hbb, hbx⟩ := HGO.out w2 G.out; have d1 := free_blk hbb 0; have e1 := cell_blk hbb 0; have e2 : w2.cell? ⟨bx, 0, none⟩ = some (.pointer (some ⟨bb, 0, none⟩)) := cell_blk hbx 0; have HF := Lib.hid (HFI.out w2 va2 vc2 G.out R.out); clear hbb hbx)
    all_goals
      go_wp2_with fail
      go_meet
      obtain ⟨f1, f2, f3⟩ := HF.out
      exact ⟨Lib.hid f1, Lib.hid f2, Lib.hid f3⟩
  case rest =>
    obtain ⟨HO, HC, HF⟩ := hcut
    obtain ⟨q0, q1⟩ := HC.out
    have AA := Lib.hid (add_all HO.out.bld HRI.out p HX.out (Nat.le_of_lt HO.out.bld.lt))
    have hpk : p.k = K := by rw [HPE.out]
    have hpv : p.v = V := by rw [HPE.out]
    rw [hpk, hpv] at AA
    clear x0 y0 p0 p1 x0' y0' p0' p1' z1 z2 hWA hpk hpv
    go_wp2_with fail
    refine AA.out.mono ?_
    rintro e w3 (⟨h1, h2, h3, rfl, h4, h5⟩ | ⟨hno, E, hE, rfl, rfl⟩)
    · have HV : Hid (VisP w0 bb bx bu ps p W (.returned (.bool true)) w3) := Lib.hid (by
        have ho := HO.out.bld' h4 h5
        refine ⟨true, rfl, fun _ => ⟨h1, h2, h3, ho⟩, (fun h => by cases h), ho.bel, Nat.le_trans HF.out.1 h5.size, fun r s b hbr hrd => ?_⟩
        have h6 := HF.out.2 r s b hbr hrd
        unfold RdAt at h6 ⊢
        rw [h5.block r (lt_of_heap h6) (.inr ⟨_, _, h6, by decide, by decide, by decide⟩)]
        exact h6)
      clear h1 h2 h3 h4 h5
      go_wp2_with fail
      go_ret
      exact HV.out
    · have HV : Hid (VisP w0 bb bx bu ps p W (.returned (.bool false)) wc) := Lib.hid ⟨false, rfl, (fun h => by cases h), fun _ => hno, HO.out.bel, HF.out.1, HF.out.2⟩
      have hEf : (E == 0) = false := by simpa using hE
      clear hno
      go_wp2_with fail
      go_ret
      exact HV.out
end Go.Proofs.Ytolmbccdkfbppaa
