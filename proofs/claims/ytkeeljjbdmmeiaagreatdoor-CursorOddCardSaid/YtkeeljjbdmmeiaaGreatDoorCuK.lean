/- Layer 14: Clone of a list of pairs; cursor.New. Conditions: those written at each theorem. -/
import Derived.Test.YtkeeljjbdmmeiaaGreatDoorCuJ
import Derived.Deep.AppendLies
import Derived.Deep.RegionLaw
import Derived.Lib.BufferMore
namespace Go.Proofs.YtkeeljjbdmmeiaaGreatDoor
open Go.RowKit Go.Maps Go.WideShapes
set_option linter.unusedVariables false
set_option linter.unusedSimpArgs false
theorem kpInfo : (Tryz.prog.info? 46).map (fun i => (i.zero, i.size, i.bytes)) = some (some (.agg #[.string ⟨#[]⟩, .string ⟨#[]⟩]), 2, 32) := by kernel_rfl
def ClE (ps : List KV) (w : World) (e : Ending) (w' : World) : Prop := ∃ va vc, e = .returned (.slice va ps.length vc) ∧ w'.ownsRow w.heap.size 46 2 (.slice va ps.length vc) ps.length (kvCells ps) ∧ Below w.heap.size w w'
theorem kvCells_one {ps : List KV} {u : Value} (h : u ∈ kvCells ps) : u.oneCell' = true := by
  unfold kvCells at h
  obtain ⟨p, _, hp⟩ := List.mem_flatMap.1 h
  simp at hp
  rcases hp with rfl | rfl <;> rfl
set_option maxRecDepth 100000 in
theorem clone_kv {va : Option Addr} {vc : Nat} {ps : List KV} {w : World} (R : w.ownsRow 0 46 2 (.slice va ps.length vc) ps.length (kvCells ps)) (hn : ps.length ≤ 100000) :
    Calls Tryz.prog 46 #[.slice va ps.length vc] w (ClE ps w) := by
  obtain ⟨N, hN⟩ : ∃ N, N = ps.length := ⟨_, rfl⟩
  have HN := Lib.hid hN
  rw [← hN] at R hn ⊢
  clear hN
  have hr0 := Below.refl w.heap.size w
  rcases R.2 with ⟨hv, h0⟩ | ⟨g, cap, cur, hv, _, hg, hnc, hcm, _⟩
  · injection hv with e1 e2 e3
    subst e1 e3
    have HP : Hid (w.ownsRow w.heap.size 46 2 (.slice none 0 0) N (kvCells ps)) := Lib.hid (by
      have e : N = 0 := h0
      subst e
      have e2 : ps = [] := List.length_eq_zero_iff.1 HN.out.symm
      rw [e2]
      exact World.ownsRow_nil w _ _ 2)
    have HE : Hid (∀ e w', e = Ending.returned (.slice none N 0) → w = w' → ClE ps w e w') := Lib.hid (fun e w' he hw => by
      subst hw
      have e0 : N = 0 := h0
      exact ⟨none, 0, by rw [he, HN.out], by rw [← HN.out]; have := HP.out; rw [e0] at this ⊢; exact this, hr0⟩)
    subst h0
    have hq : ∀ w, (binOp .eql 55 (.slice none 0 0) (.slice none 0 0)).run Tryz.prog w = .ok (.bool true) w := fun w => Lib.run_eql_slice_nil_nil w 0 0 Tryz.underlying55
    clear R
    go_enter Tryz.func46, Tryz.ntmps46
    go_wp2_with fail
    go_ret
    exact HE.out _ _ rfl rfl
  · injection hv with e1 e2 e3
    subst e1 e3
    obtain ⟨i0, hi, he⟩ := Option.map_eq_some_iff.1 kpInfo
    simp only [Prod.mk.injEq] at he
    have R0 : Hid ((w.alloc (Obj.cells #[] 46)).ownsRow w.heap.size 46 2 (.slice (some ⟨w.heap.size, 0, none⟩) 0 0) 0 []) := Lib.hid (World.ownsRow_made (base := w.heap.size) (e := 46) (size := 2) w #[] 0 (Nat.le_refl _) (by decide) rfl)
    have RC : Hid (∀ j u, (kvCells ps)[j]? = some u → (w.alloc (Obj.cells #[] 46)).cell? ((⟨g, 0, none⟩ : Addr).add j) = some u) := Lib.hid (fun j u hj => by
      have R' := R.alloc (Obj.cells #[] 46)
      exact R'.cells rfl j u hj)
    have KA : Hid (Below w.heap.size w (w.alloc (Obj.cells #[] 46))) := Lib.hid (hr0.alloc (Nat.le_refl _) _)
    have PL : Hid ((kvCells ps).length = N * 2) := Lib.hid (by rw [kvCells_len, HN.out])
    have hq : ∀ w, (binOp .eql 55 (.slice (some ⟨g, 0, none⟩) N vc) (.slice none 0 0)).run Tryz.prog w = .ok (.bool false) w := fun w => Lib.run_eql_slice_some_nil w ⟨g, 0, none⟩ N vc Tryz.underlying55
    clear hcm hg
    go_enter Tryz.func46, Tryz.ntmps46
    go_wp2_with (at_builtin; refine wpList_append_own _ rfl _ _ 55 rfl w.heap.size 46 i0 (.agg #[.string ⟨#[]⟩, .string ⟨#[]⟩]) 2 32 Tryz.underlying55 hi he.1 he.2.1 he.2.2 rfl (by decide) _ 0 [] rfl R0.out ⟨g, 0, none⟩ N vc (kvCells ps) rfl PL.out RC.out (fun u hu => kvCells_one hu) (by unfold maxLen; omega) (by omega) KA.out.size ?_; intro v' w2 hrow hgr _; obtain ⟨va2, vc2, rfl⟩ := row_form hrow)
    have HB : Hid (Below w.heap.size w w2) := Lib.hid (KA.out.grown hgr KA.out.size (fun g hg => (R0.out.lt g hg).1))
    have HR : Hid (w2.ownsRow w.heap.size 46 2 (.slice va2 (0 + N) vc2) (0 + N) (kvCells ps)) := Lib.hid (by simpa using hrow)
    clear hrow hgr
    go_ret
    refine ⟨va2, vc2, ?_, ?_, HB.out⟩
    · rw [← HN.out]; simp
    · have h := HR.out
      rw [Nat.zero_add] at h
      rw [← HN.out]
      exact h
/-- append(l, p), at a row of pointers of the walk's own, as one step of a region that draws its order. -/
theorem step_appPl {w : World} {ops : Array Oper} {o : Oper} {a : Act} {K : Act → World → Prop} {Q : Exit → Act → World → Prop} {E : Prop} (hgd : o.guard = none) (s x : Operand)
    (ho : o.op = .call { callee := .builtin .append, args := #[s, x], argTypes := #[92, 92] })
    (B : Nat) (v : Value) (l : List Value) (q : Option Addr) (hs : a.eval s = v) (hown : w.ownsRow B 97 1 v l.length l) (g : Nat) (hx : a.eval x = .slice (some ⟨g, 0, none⟩) 1 1)
    (hc : w.cell? ⟨g, 0, none⟩ = some (.pointer q)) (hl : l.length ≤ 1000) (hB : B ≤ w.heap.size)
    (h : ∀ g' cap w', w'.ownsRow B 97 1 (.slice (some ⟨g', 0, none⟩) (l.length + 1) cap) (l.length + 1) (l ++ [.pointer q]) → w.grownBy w' v.ownBlock → (v.ownBlock = some g' ∨ g' = w.heap.size) → g' < w'.heap.size → K (a.put o.dst (.slice (some ⟨g', 0, none⟩) (l.length + 1) cap)) w') :
    if Region.wanted o (yielded ops a.tmps) = true then Oper.wp Tryz.prog o a w K Q else E := by
  obtain ⟨i0, hi, he⟩ := Option.map_eq_some_iff.1 ptInfo
  simp only [Prod.mk.injEq] at he
  refine step_append_lies w hgd s x 92 ho B 97 i0 (.pointer none) 1 8 Tryz.underlying92 hi he.1 he.2.1 he.2.2 rfl (by decide) v l.length l hs hown ⟨g, 0, none⟩ 1 1 [.pointer q] hx rfl ?_ ?_ (by decide) ?_ ?_ hB _ rfl ?_
  · intro j u hj
    match j, hj with
    | 0, hj => simp at hj; subst hj; exact hc
  · intro u hu
    simp at hu
    subst hu; rfl
  · unfold maxLen; omega
  · omega
  · intro g' cap w' h1 h2 h3 h4
    exact h g' cap w' h1 h2 h3 h4
/-- A source over a list. -/
structure Sc where
  sa : Option Addr
  sc : Nat
  ps : List KV
def SrcAt (w : World) (la : Option Addr) (ls : List Sc) : Prop := ∀ (i : Nat) s, ls[i]? = some s → ∃ lg, la = some ⟨lg, 0, none⟩ ∧ lg < w.heap.size ∧ w.cell? ⟨lg, i * 3, none⟩ = some (.int .i64 1) ∧ w.cell? ⟨lg, i * 3 + 1, none⟩ = some (.slice s.sa s.ps.length s.sc) ∧ w.cell? ⟨lg, i * 3 + 2, none⟩ = some (.pointer none) ∧ w.ownsRow 0 46 2 (.slice s.sa s.ps.length s.sc) s.ps.length (kvCells s.ps)
theorem SrcAt.next {w w' : World} {la : Option Addr} {ls : List Sc} (h : SrcAt w la ls) (k : Below w.heap.size w w') : SrcAt w' la ls := fun i s hs => by
  obtain ⟨lg, e, hl, c0, c1, c2, hr⟩ := h i s hs
  exact ⟨lg, e, Nat.lt_of_lt_of_le hl k.size, (k.cell (p := ⟨lg, i * 3, none⟩) hl).trans c0, (k.cell (p := ⟨lg, i * 3 + 1, none⟩) hl).trans c1, (k.cell (p := ⟨lg, i * 3 + 2, none⟩) hl).trans c2, row_stay hr fun g hg => k.block g (row_lt hr hg)⟩
/-- A merge under way in New. -/
structure NwAt (w : World) (mb : Nat) (ls : List Sc) (P : List Pl) (va : Option Addr) (vc : Nat) (wr : World) : Prop where
  hd : wr.heap[mb]? = some (.cells #[.slice va P.length vc, .slice none 0 0, .int .i64 0] 95 (0, 0))
  row : wr.ownsRow w.heap.size 97 1 (.slice va P.length vc) P.length (P.map plP)
  pls : ∀ (i : Nat) p, P[i]? = some p → PlAt i p wr ∧ p.pos = 0 ∧ w.heap.size ≤ p.b ∧ (ls[i]?).map (·.ps) = some p.ps
  inj : ∀ (i j : Nat) p q, P[i]? = some p → P[j]? = some q → p.b = q.b → i = j
  bel : Below w.heap.size w wr
  mbz : mb = w.heap.size
theorem NwAt.next {w : World} {mb : Nat} {ls : List Sc} {P : List Pl} {va : Option Addr} {vc : Nat} {wr V : World} (h : NwAt w mb ls P va vc wr) (k : Below wr.heap.size wr V) : NwAt w mb ls P va vc V :=
  ⟨(k.block mb (lt_of_heap h.hd)).trans h.hd, row_stay h.row fun g hg => k.block g (row_lt (row_zero h.row) hg), fun i p hp => ⟨(h.pls i p hp).1.next k, (h.pls i p hp).2⟩, h.inj, below_mono h.bel k (Nat.le_refl _), h.mbz⟩
/-- A place goes behind the others. -/
theorem NwAt.push {w : World} {mb : Nat} {ls : List Sc} {P : List Pl} {va : Option Addr} {vc : Nat} {W w5 : World} {s : Sc} {va2 : Option Addr} {vc2 q : Nat} (h : NwAt w mb ls P va vc W) (hs : ls[P.length]? = some s) (hf : s.ps.length ≤ 100000)
    (hq : W.heap[q]? = some (.cells #[.int .i64 1, .slice va2 s.ps.length vc2, .pointer none, .int .i64 P.length, .int .i64 0] 99 (0, 0))) (hrow : W.ownsRow 0 46 2 (.slice va2 s.ps.length vc2) s.ps.length (kvCells s.ps)) (hfresh : ∀ (i : Nat) p, P[i]? = some p → p.b ≠ q) (hql : w.heap.size ≤ q)
    {va1 : Option Addr} {vc1 : Nat} (hown : w5.ownsRow w.heap.size 97 1 (.slice va1 (P.length + 1) vc1) (P.length + 1) (P.map plP ++ [.pointer (some ⟨q, 0, none⟩)])) (hg : W.grownBy w5 (Value.slice va P.length vc).ownBlock) :
    (w5.cell? ⟨mb, 0, none⟩ = some (.slice va P.length vc) ∧ w5.frozen? ⟨mb, 0, none⟩ = false) ∧ NwAt w mb ls (P ++ [⟨q, va2, vc2, s.ps, 0⟩]) va1 vc1 (w5.setCell ⟨mb, 0, none⟩ (.slice va1 (P.length + 1) vc1)) := by
  have hmb : w5.heap[mb]? = W.heap[mb]? := hg.block mb (lt_of_heap h.hd) (fun e => by
    rcases h.row.2 with ⟨hv, _⟩ | ⟨b', _, _, hv, _, hg2, _⟩
    · rw [hv] at e; cases e
    · rw [hv] at e; cases e; exact type_ne h.hd hg2 (by decide) rfl)
  have hhd := hmb.trans h.hd
  have hps : ∀ i q, PlAt i q W → PlAt i q (w5.setCell ⟨mb, 0, none⟩ (.slice va1 (P.length + 1) vc1)) := fun i q hq => (hq.grown h.row hg).far hhd (by decide) (by decide) (fun b _ hb => set_other _ _ _ _ hb)
  have hl : (P ++ [(⟨q, va2, vc2, s.ps, 0⟩ : Pl)]).length = P.length + 1 := by simp
  have hm : (P ++ [(⟨q, va2, vc2, s.ps, 0⟩ : Pl)]).map plP = P.map plP ++ [.pointer (some ⟨q, 0, none⟩)] := by simp [plP]
  have hO : Only [mb] w5 (w5.setCell ⟨mb, 0, none⟩ (.slice va1 (P.length + 1) vc1)) := (Only.refl [mb] w5).set (a := ⟨mb, 0, none⟩) (.inl (by simp)) _
  have hget : ∀ (i : Nat) p, (P ++ [(⟨q, va2, vc2, s.ps, 0⟩ : Pl)])[i]? = some p → P[i]? = some p ∨ (i = P.length ∧ p = (⟨q, va2, vc2, s.ps, 0⟩ : Pl)) := by
    intro i p hp
    by_cases hi : i < P.length
    · rw [List.getElem?_append_left hi] at hp; exact .inl hp
    · rw [List.getElem?_append_right (by omega)] at hp
      have h0 : i - P.length = 0 := by
        have := (List.getElem?_eq_some_iff.1 hp).1
        simp at this
        omega
      rw [h0] at hp
      simp at hp
      exact .inr ⟨by omega, hp.symm⟩
  refine ⟨⟨cell_blk hhd 0, free_blk hhd 0⟩, ⟨by rw [hl]; exact set_same _ hhd, ?_, ?_, ?_, ?_, h.mbz⟩⟩
  · rw [hl, hm]
    refine row_stay hown fun x hx => set_other _ _ _ _ ?_
    rcases hown.2 with ⟨hv, h0⟩ | ⟨b', _, _, hv, _, hg2, _⟩
    · rw [hv] at hx; cases hx
    · rw [hv] at hx; cases hx; exact type_ne hg2 hhd (by decide)
  · intro i p hp
    rcases hget i p hp with h1 | ⟨rfl, rfl⟩
    · obtain ⟨a1, a2⟩ := h.pls i p h1
      exact ⟨hps i p a1, a2⟩
    · exact ⟨hps _ _ ⟨hq, hrow, by show s.ps.length ≤ _ ∧ 0 ≤ _; omega⟩, rfl, hql, by rw [hs]; rfl⟩
  · intro i j x y hx hy e
    rcases hget i x hx with h1 | ⟨rfl, rfl⟩ <;> rcases hget j y hy with h2 | ⟨rfl, rfl⟩
    · exact h.inj i j x y h1 h2 e
    · exact absurd e (hfresh i x h1)
    · exact absurd e.symm (hfresh j y h2)
    · rfl
  · have hb5 : Below w.heap.size w w5 := h.bel.grown hg h.bel.size (fun g hg => by
      rcases h.row.2 with ⟨hv, _⟩ | ⟨b', _, _, hv, hb, _⟩
      · rw [hv] at hg; cases hg
      · rw [hv] at hg; cases hg; exact hb)
    exact hO.below (by simp; rw [h.mbz]; exact Nat.le_refl _) hb5.size hb5
theorem src_zero (w : World) : ((w.alloc (.cells #[.int .i64 0, .slice none 0 0, .pointer none] 58)).cell? ⟨w.heap.size, 0, none⟩ = some (.int .i64 0) ∧ (w.alloc (.cells #[.int .i64 0, .slice none 0 0, .pointer none] 58)).cell? ⟨w.heap.size, 1, none⟩ = some (.slice none 0 0) ∧ (w.alloc (.cells #[.int .i64 0, .slice none 0 0, .pointer none] 58)).cell? ⟨w.heap.size, 2, none⟩ = some (.pointer none)) ∧ (w.alloc (.cells #[.int .i64 0, .slice none 0 0, .pointer none] 58)).frozen? ⟨w.heap.size, 0, none⟩ = false ∧ (w.alloc (.cells #[.int .i64 0, .slice none 0 0, .pointer none] 58)).frozen? ⟨w.heap.size, 1, none⟩ = false ∧ (w.alloc (.cells #[.int .i64 0, .slice none 0 0, .pointer none] 58)).frozen? ⟨w.heap.size, 2, none⟩ = false :=
  ⟨⟨World.cell?_alloc_at _ _ _ _ rfl, World.cell?_alloc_at _ _ _ _ rfl, World.cell?_alloc_at _ _ _ _ rfl⟩, World.frozen?_alloc_at _ _ _ _ rfl, World.frozen?_alloc_at _ _ _ _ rfl, World.frozen?_alloc_at _ _ _ _ rfl⟩
set_option maxRecDepth 100000 in
set_option maxHeartbeats 8000000 in
theorem new_any {ls : List Sc} {la : Option Addr} {lc : Nat} (w : World) (h : SrcAt w la ls) (hn : ls.length ≤ 1000) (hf : ∀ s ∈ ls, s.ps.length ≤ 100000) :
    Calls Tryz.prog 15 #[.slice la ls.length lc] w fun e w' => e = .returned (.pointer (some ⟨w.heap.size, 0, none⟩)) ∧ ∃ P va vc, P.length = ls.length ∧ NwAt w w.heap.size ls P va vc w' := by
  have HS : Hid (∀ V, Below w.heap.size w V → SrcAt V la ls) := Lib.hid fun V hV => h.next hV
  obtain ⟨n, hnn⟩ : ∃ n, n = ls.length := ⟨_, rfl⟩
  have HN : Hid (n = ls.length ∧ n ≤ 1000) := Lib.hid ⟨hnn, by omega⟩
  have HF := Lib.hid hf
  rw [← hnn]
  obtain ⟨mb, hmb⟩ : ∃ m, m = w.heap.size := ⟨_, rfl⟩
  have HMB := Lib.hid hmb
  have HW0 : Hid (∀ W, w.alloc (.cells #[.slice none 0 0, .slice none 0 0, .int .i64 0] 95) = W → NwAt w mb ls [] none 0 W) := Lib.hid (by
    rintro W rfl
    exact ⟨by rw [hmb]; exact heap_alloc_new w _, World.ownsRow_nil _ _ _ 1, fun i p hp => by simp at hp, fun i j p q hp => by simp at hp, (Below.refl _ _).alloc (Nat.le_refl _) _, hmb⟩)
  clear h hn hnn hf hmb
  go_enter Tryz.func15, Tryz.ntmps15
  go_upto_region 3 with fail
  rw [← HMB.out]
  obtain ⟨W1, hW1⟩ : ∃ X, w.alloc (.cells #[.slice none 0 0, .slice none 0 0, .int .i64 0] 95) = X := ⟨_, rfl⟩
  have HW1 := Lib.hid (HW0.out W1 hW1)
  rw [hW1]
  clear hW1 HW0
  go_loopw [10] (fun v wr => ∃ (P : List Pl) (va : Option Addr) (vc : Nat), P.length ≤ n ∧ v = .int .i64 P.length ∧ Hid (NwAt w mb ls P va vc wr)) (fun v _ => n - (intOf v).toNat)
  case atStart => exact ⟨[], none, 0, by simp, rfl, HW1⟩
  case round =>
    obtain ⟨P, va, vc, hj, rfl, HP⟩ := hrel
    obtain ⟨j, hjj⟩ : ∃ j, j = P.length := ⟨_, rfl⟩
    have HJJ := Lib.hid hjj
    rw [← hjj] at hj ⊢
    have hn1 := HN.out.2
    by_cases hlt : j < n
    · obtain ⟨s, hs⟩ : ∃ s, ls[j]? = some s := ⟨_, List.getElem?_eq_getElem (by rw [← HN.out.1]; exact hlt)⟩
      obtain ⟨lg, rfl, hlg, d0, d1, d2, hr⟩ := HS.out wr HP.out.bel j s hs
      have HSJ := Lib.hid hs
      obtain ⟨m, hm⟩ : ∃ m, m = s.ps.length := ⟨_, rfl⟩
      obtain ⟨sa, hsa⟩ : ∃ m, m = s.sa := ⟨_, rfl⟩
      obtain ⟨sc, hsc⟩ : ∃ m, m = s.sc := ⟨_, rfl⟩
      have HFJ : Hid (s.ps.length ≤ 100000) := Lib.hid (HF.out s (List.mem_of_getElem? hs))
      have CC : Hid (∀ V, Below wr.heap.size wr V → Calls Tryz.prog 46 #[.slice sa m sc] V (ClE s.ps V)) := Lib.hid fun V hV => by
        rw [hm, hsa, hsc]
        exact clone_kv (row_stay hr fun g hg => hV.block g (row_lt hr hg)) (HF.out s (List.mem_of_getElem? hs))
      rw [← hsa, ← hm, ← hsc] at d1
      have HM := Lib.hid hm
      have j0 : (0 : Int) ≤ (j : Int) := by omega
      have j1 : (j : Int) < (n : Int) := by omega
      have hw9 : IntKind.i64.wrap ((j : Int) + 1) = ((j + 1 : Nat) : Int) := by rw [IntKind.wrap_i64]; omega
      have HJ : Hid (j + 1 ≤ n ∧ n ≤ 1000) := Lib.hid ⟨by omega, hn1⟩
      obtain ⟨⟨r0, r1, r2⟩, p0, p1, p2⟩ := src_zero wr
      obtain ⟨u, hu⟩ : ∃ u, u = wr.heap.size := ⟨_, rfl⟩
      have HU := Lib.hid hu
      clear hs hr hm hsa hsc hn1 hjj hu
      go_upto_region 5 with fail
      clear r0 r1 r2 p0 p1 p2 d0 d1 d2
      obtain ⟨W4, hW4⟩ : ∃ X, wr.alloc (.cells #[.int .i64 1, .slice sa m sc, .pointer none] 58) = X := ⟨_, rfl⟩
      have hb4 : Below wr.heap.size wr W4 := by rw [← hW4]; exact (Below.refl _ _).alloc (Nat.le_refl _) _
      have x4 : W4.heap[u]? = some (.cells #[.int .i64 1, .slice sa m sc, .pointer none] 58 (0, 0)) := by rw [← hW4, HU.out]; exact heap_alloc_new wr _
      rw [hW4, ← HU.out]
      have HB4 := Lib.hid hb4
      have HX4 := Lib.hid x4
      have e1 : W4.cell? ⟨u, 1, none⟩ = some (.slice sa m sc) := cell_blk x4 1
      clear hW4 hb4 x4
      go_upto_region 6 with (go_at_call 46; (with_reducible refine (CC.out _ HB4.out).mono ?_); rintro e w5 ⟨va2, vc2, he, hrw, hb⟩; obtain rfl : e = Ending.returned (.slice va2 m vc2) := (by rw [he, HM.out]); have HRW := Lib.hid hrw; have HB5 := Lib.hid hb; have HX5 := Lib.hid ((hb.block u (lt_of_heap HX4.out)).trans HX4.out); clear he hrw hb e1; have e1 : w5.cell? ⟨u, 1, none⟩ = some (.slice sa m sc) := cell_blk HX5.out 1; have z1 := free_blk HX5.out 1)
      clear e1 z1
      have HO6 : Hid (∀ W6, w5.setCell ⟨u, 1, none⟩ (.slice va2 m vc2) = W6 → Below wr.heap.size wr W6 ∧ W6.heap[u]? = some (.cells #[.int .i64 1, .slice va2 m vc2, .pointer none] 58 (0, 0)) ∧ W6.ownsRow 0 46 2 (.slice va2 s.ps.length vc2) s.ps.length (kvCells s.ps)) := Lib.hid (by
        rintro W6 rfl
        have hO : Only [u] w5 (w5.setCell ⟨u, 1, none⟩ (.slice va2 m vc2)) := (Only.refl [u] w5).set (a := ⟨u, 1, none⟩) (.inl (by simp)) _
        have hb := below_mono HB4.out HB5.out (Nat.le_refl _)
        refine ⟨hO.below (by simp; rw [HU.out]; exact Nat.le_refl _) hb.size hb, set_same _ HX5.out, row_stay (row_zero HRW.out) fun g hg => set_other _ _ _ _ ?_⟩
        rcases HRW.out.2 with ⟨hv, h0⟩ | ⟨b', _, _, hv, _, hg2, _⟩
        · rw [hv] at hg; cases hg
        · rw [hv] at hg; cases hg; exact type_ne hg2 HX5.out (by decide))
      obtain ⟨W6, hW6⟩ : ∃ X, w5.setCell ⟨u, 1, none⟩ (.slice va2 m vc2) = X := ⟨_, rfl⟩
      obtain ⟨b6, x6, r6⟩ := HO6.out W6 hW6
      rw [hW6]
      have HP6 := Lib.hid (HP.out.next b6)
      have HR6 := Lib.hid r6
      have HB6 := Lib.hid b6
      obtain ⟨d0, d1, d2⟩ : W6.cell? ⟨u, 0, none⟩ = some (.int .i64 1) ∧ W6.cell? ⟨u, 1, none⟩ = some (.slice va2 m vc2) ∧ W6.cell? ⟨u, 2, none⟩ = some (.pointer none) := ⟨cell_blk x6 0, cell_blk x6 1, cell_blk x6 2⟩
      have c0 : W6.cell? ⟨mb, 0, none⟩ = some (.slice va j vc) := by rw [HJJ.out]; exact cell_blk HP6.out.hd 0
      clear hW6 b6 x6 r6 HO6
      have hk1 := (Below.refl W6.heap.size W6).alloc (Nat.le_refl _) (.cells #[.int .i64 1, .slice va2 m vc2, .pointer none, .int .i64 j, .int .i64 0] 99)
      have hk2 := hk1.alloc hk1.size (.cells #[.pointer (some ⟨W6.heap.size, 0, none⟩)] 97)
      have hs1 : (W6.alloc (.cells #[.int .i64 1, .slice va2 m vc2, .pointer none, .int .i64 j, .int .i64 0] 99)).heap.size = W6.heap.size + 1 := by simp
      have HPA := Lib.hid (HP6.out.next hk2.drew)
      have HQA : Hid (((W6.alloc (.cells #[.int .i64 1, .slice va2 m vc2, .pointer none, .int .i64 j, .int .i64 0] 99)).alloc (.cells #[.pointer (some ⟨W6.heap.size, 0, none⟩)] 97)).drew.heap[W6.heap.size]? = some (.cells #[.int .i64 1, .slice va2 m vc2, .pointer none, .int .i64 j, .int .i64 0] 99 (0, 0))) := Lib.hid (by
        have hk3 := (Below.refl (W6.heap.size + 1) (W6.alloc (.cells #[.int .i64 1, .slice va2 m vc2, .pointer none, .int .i64 j, .int .i64 0] 99))).alloc (by rw [hs1]; exact Nat.le_refl _) (.cells #[.pointer (some ⟨W6.heap.size, 0, none⟩)] 97)
        exact (hk3.block W6.heap.size (Nat.lt_succ_self _)).trans (heap_alloc_new W6 _))
      have HNA : Hid (((W6.alloc (.cells #[.int .i64 1, .slice va2 m vc2, .pointer none, .int .i64 j, .int .i64 0] 99)).alloc (.cells #[.pointer (some ⟨W6.heap.size, 0, none⟩)] 97)).drew.cell? ⟨W6.heap.size + 1, 0, none⟩ = some (.pointer (some ⟨W6.heap.size, 0, none⟩))) := Lib.hid (by
        have := cell_blk (heap_alloc_new (W6.alloc (.cells #[.int .i64 1, .slice va2 m vc2, .pointer none, .int .i64 j, .int .i64 0] 99)) (.cells #[.pointer (some ⟨W6.heap.size, 0, none⟩)] 97)) 0
        rw [hs1] at this
        exact this)
      have HRA := Lib.hid (row_stay (w' := ((W6.alloc (.cells #[.int .i64 1, .slice va2 m vc2, .pointer none, .int .i64 j, .int .i64 0] 99)).alloc (.cells #[.pointer (some ⟨W6.heap.size, 0, none⟩)] 97)).drew) HR6.out fun g hg => hk2.block g (row_lt HR6.out hg))
      have HBA : Hid (w.heap.size ≤ ((W6.alloc (.cells #[.int .i64 1, .slice va2 m vc2, .pointer none, .int .i64 j, .int .i64 0] 99)).alloc (.cells #[.pointer (some ⟨W6.heap.size, 0, none⟩)] 97)).drew.heap.size) := Lib.hid HPA.out.bel.size
      have HFR : Hid (∀ (i : Nat) p, P[i]? = some p → p.b ≠ W6.heap.size) := Lib.hid fun i p hp e => by
        have := lt_of_heap (HP6.out.pls i p hp).1.blk
        omega
      have HLM : Hid ((P.map plP).length = j) := Lib.hid (by rw [List.length_map]; exact HJJ.out.symm)
      have HROW : Hid (((W6.alloc (.cells #[.int .i64 1, .slice va2 m vc2, .pointer none, .int .i64 j, .int .i64 0] 99)).alloc (.cells #[.pointer (some ⟨W6.heap.size, 0, none⟩)] 97)).drew.ownsRow w.heap.size 97 1 (.slice va j vc) j (P.map plP)) := Lib.hid (by
        have := HPA.out.row
        rw [← HJJ.out] at this
        exact this)
      have cA1 : (W6.alloc (.cells #[.int .i64 1, .slice va2 m vc2, .pointer none, .int .i64 j, .int .i64 0] 99)).cell? ⟨mb, 0, none⟩ = some (.slice va j vc) := (hk1.cell (p := ⟨mb, 0, none⟩) (lt_of_heap HP6.out.hd)).trans c0
      have cA2 : ((W6.alloc (.cells #[.int .i64 1, .slice va2 m vc2, .pointer none, .int .i64 j, .int .i64 0] 99)).alloc (.cells #[.pointer (some ⟨W6.heap.size, 0, none⟩)] 97)).cell? ⟨mb, 0, none⟩ = some (.slice va j vc) := (hk2.cell (p := ⟨mb, 0, none⟩) (lt_of_heap HP6.out.hd)).trans c0
      clear hk1 hk2 hs1
      go_region_law (refine step_appPl rfl _ _ rfl w.heap.size (.slice va j vc) (P.map plP) (some ⟨W6.heap.size, 0, none⟩) rfl (by rw [HLM.out]; exact HROW.out) (W6.heap.size + 1) rfl HNA.out (by rw [HLM.out]; have := HJ.out; omega) HBA.out ?_; rw [HLM.out]; intro g' cap' w8 hown hgr hor hgl; have HP8 := Lib.hid (NwAt.push HPA.out (s := s) (va2 := va2) (vc2 := vc2) (q := W6.heap.size) (by rw [← HJJ.out]; exact HSJ.out) HFJ.out (by rw [← HJJ.out, ← HM.out]; exact HQA.out) HRA.out HFR.out HP6.out.bel.size (by rw [← HJJ.out]; exact hown) (by rw [← HJJ.out]; exact hgr)); have e5 : w8.cell? ⟨mb, 0, none⟩ = some (.slice va j vc) := (by rw [HJJ.out]; exact HP8.out.1.1); have f5 : w8.frozen? ⟨mb, 0, none⟩ = false := HP8.out.1.2; clear hown hgr hor hgl)
      all_goals
        go_wp2_with fail
        go_roundw
        case rel =>
          exact ⟨P ++ [⟨W6.heap.size, va2, vc2, s.ps, 0⟩], some ⟨g', 0, none⟩, cap', by rw [List.length_append, ← HJJ.out]; exact HJ.out.1, by rw [List.length_append, ← HJJ.out]; first | rfl | go_num, Lib.hid (by have := HP8.out.2; rw [← HJJ.out] at this; exact this)⟩
        case measure => have := HJ.out; simp [intOf]; omega
    · obtain rfl : j = n := by omega
      go_wp2_with fail
      go_ret
      exact ⟨by rw [← HMB.out]; rfl, P, va, vc, HJJ.out.symm, by rw [← HMB.out]; exact HP.out⟩
end Go.Proofs.YtkeeljjbdmmeiaaGreatDoor
