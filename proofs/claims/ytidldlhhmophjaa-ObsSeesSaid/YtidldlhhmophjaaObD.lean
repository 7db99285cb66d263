/- Layer 22: fixings copied into an environment of the program's. Conditions: those written at each theorem. -/
import Derived.Test.YtidldlhhmophjaaObA
import Derived.Test.YtidldlhhmophjaaTrJ
import Derived.Deep.RegionLaw
namespace Go.Proofs.Ytidldlhhmophjaa
open Go.RowKit Go.PlainAid
set_option linter.unusedVariables false
set_option linter.unusedSimpArgs false
def flat3 (l : List Fx) : List Value := l.flatMap fun f => [.string f.nm, .int .i64 f.day, .int .i64 f.val]
theorem flat3_len (l : List Fx) : (flat3 l).length = l.length * 3 := by
  induction l with
  | nil => rfl
  | cons q t ih => simp only [flat3, List.flatMap_cons, List.length_append, List.length_cons, List.length_nil] at ih ⊢; omega
theorem flat3_snoc (l : List Fx) (f : Fx) : flat3 (l ++ [f]) = flat3 l ++ [.string f.nm, .int .i64 f.day, .int .i64 f.val] := by simp [flat3]
theorem flat3_get : ∀ (l : List Fx) (i : Nat) (f : Fx), l[i]? = some f → ∀ k, k < 3 → (flat3 l)[i * 3 + k]? = [Value.string f.nm, .int .i64 f.day, .int .i64 f.val][k]?
  | [], i, q, h, k, hk => by simp at h
  | p :: t, 0, q, h, k, hk => by
    simp at h
    subst h
    rw [Nat.zero_mul, Nat.zero_add]
    simp only [flat3, List.flatMap_cons]
    rw [List.getElem?_append_left (by simpa using hk)]
  | p :: t, i + 1, q, h, k, hk => by
    have ih := flat3_get t i q (by simpa using h) k hk
    simp only [flat3, List.flatMap_cons] at ih ⊢
    rw [List.getElem?_append_right (by simp; omega)]
    simp only [List.length_cons, List.length_nil]
    rw [show (i + 1) * 3 + k - (0 + 1 + 1 + 1) = i * 3 + k from by omega]
    exact ih
/-- A row of the call's own that holds fixings. -/
def Row3 (w : World) (B : Nat) (v : Value) (l : List Fx) : Prop := w.ownsRow B 83 3 v l.length (flat3 l)
theorem Row3.nil (w : World) (B : Nat) : Row3 w B (.slice none 0 0) [] := World.ownsRow_nil w B _ 3
theorem Row3.stay {w w' : World} {B : Nat} {v : Value} {l : List Fx} (h : Row3 w B v l) (hg : ∀ g, v.ownBlock = some g → w'.heap[g]? = w.heap[g]?) : Row3 w' B v l := row_stay h hg
theorem Row3.lt {w : World} {B : Nat} {v : Value} {l : List Fx} (h : Row3 w B v l) {g : Nat} (hg : v.ownBlock = some g) : g < w.heap.size ∧ B ≤ g := by
  rcases h.2 with ⟨rfl, h0⟩ | ⟨g', cap, cur, rfl, hb, hgg, _⟩
  · cases hg
  · cases hg
    exact ⟨lt_of_heap hgg, hb⟩
theorem Row3.at {w : World} {B : Nat} {va : Option Addr} {n c : Nat} {l : List Fx} (h : Row3 w B (.slice va n c) l) : FxA (fun b => B ≤ b ∧ b < w.heap.size) va l w := by
  intro hl
  rcases h.2 with ⟨hv, h0⟩ | ⟨b, cp, cur, hv, hb, hg, hc, _, hsz, htk⟩
  · have : l = [] := List.length_eq_zero_iff.1 h0
    exact absurd this hl
  · injection hv with e1 e2 e3
    refine ⟨_, e1, ⟨hb, lt_of_heap hg⟩, fun i f hf => ?_⟩
    have hi := (List.getElem?_eq_some_iff.1 hf).1
    have hcell : ∀ k, k < 3 → w.cell? ⟨b, i * 3 + k, none⟩ = [Value.string f.nm, .int .i64 f.day, .int .i64 f.val][k]? := by
      intro k hk
      rw [cell_blk hg, ← flat3_get l i f hf k hk, ← htk, List.getElem?_take_of_lt (by omega)]
      simp
    have ea : ∀ j, (⟨b, 0, none⟩ : Addr).add j = ⟨b, j, none⟩ := fun j => by unfold Addr.add; split <;> simp_all
    rw [ea]
    exact ⟨hcell 0 (by omega), hcell 1 (by omega), hcell 2 (by omega)⟩
theorem fixInfo : (Try.prog.info? 83).map (fun i => (i.zero, i.size, i.bytes)) = some (some (.agg #[.string ⟨#[]⟩, .int .i64 0, .int .i64 0]), 3, 32) := by kernel_rfl
/-- append(l, f), of a fixing in a new block. -/
theorem step_appF {w : World} {ops : Array Oper} {o : Oper} {a : Act} {K : Act → World → Prop} {Q : Exit → Act → World → Prop} {E : Prop} (hgd : o.guard = none) (s x : Operand)
    (ho : o.op = .call { callee := .builtin .append, args := #[s, x], argTypes := #[61, 61] })
    (B : Nat) (v : Value) (l : List Fx) (hs : a.eval s = v) (hown : Row3 w B v l) (g : Nat) (t0 : ByteArray) (i1 i2 : Int) (hx : a.eval x = .slice (some ⟨g, 0, none⟩) 1 1)
    (hc : w.heap[g]? = some (.cells #[.string t0, .int .i64 i1, .int .i64 i2] 83 (0, 0))) (hl : l.length ≤ 1000) (hB : B ≤ w.heap.size)
    (h : ∀ g' cap w', Row3 w' B (.slice (some ⟨g', 0, none⟩) (l.length + 1) cap) (l ++ [⟨t0, i1, i2⟩]) → w.grownBy w' v.ownBlock → (v.ownBlock = some g' ∨ g' = w.heap.size) → g' < w'.heap.size → K (a.put o.dst (.slice (some ⟨g', 0, none⟩) (l.length + 1) cap)) w') :
    if Region.wanted o (yielded ops a.tmps) = true then Oper.wp Try.prog o a w K Q else E := by
  obtain ⟨i, hi, hz0, hz1, hz2⟩ := info_parts fixInfo
  refine step_append_lies w hgd s x 61 ho B 83 i (.agg #[.string ⟨#[]⟩, .int .i64 0, .int .i64 0]) 3 32 Try.underlying61 hi hz0 hz1 hz2 rfl (by decide) v l.length (flat3 l) hs hown ⟨g, 0, none⟩ 1 1 [.string t0, .int .i64 i1, .int .i64 i2] hx rfl ?_ ?_ (by decide) ?_ ?_ hB _ rfl ?_
  · intro j u hj
    match j, hj with
    | 0, hj => simp at hj; subst hj; exact cell_blk hc 0
    | 1, hj => simp at hj; subst hj; exact cell_blk hc 1
    | 2, hj => simp at hj; subst hj; exact cell_blk hc 2
  · intro u hu
    simp at hu
    rcases hu with rfl | rfl | rfl <;> rfl
  · unfold maxLen; omega
  · omega
  · intro g' cap w' h1 h2 h3 h4
    refine h g' cap w' ?_ h2 h3 h4
    unfold Row3
    rw [flat3_snoc, List.length_append]
    exact h1
theorem grown_rowF {W A C : World} {q : Nat} {row : Option Nat} (hA : W.grownBy A (some q)) (hC : A.grownBy C row) (h : ∀ g, row = some g → W.heap.size ≤ g) : W.grownBy C (some q) :=
  ⟨hC.os.trans hA.os, hC.tape.trans hA.tape, hC.output.trans hA.output, Nat.le_trans hA.size hC.size, fun k hk hne => (hC.block k (Nat.lt_of_lt_of_le hk hA.size) (fun e => by have := h k e.symm; omega)).trans (hA.block k hk hne)⟩
/-- The environment under way. -/
structure EnvB (W : World) (eb : Nat) (day : Int) (va : Option Addr) (n vc : Nat) (l : List Fx) (wr : World) : Prop where
  row : Row3 wr W.heap.size (.slice va n vc) l
  len : l.length = n
  grow : W.grownBy wr (some eb)
  box : wr.heap[eb]? = some (.cells #[.int .i64 day, .slice va n vc] 63 (0, 0))
theorem EnvB.next {W : World} {eb : Nat} {day : Int} {va : Option Addr} {n vc : Nat} {l : List Fx} {wr w' : World} (h : EnvB W eb day va n vc l wr) (k : Below wr.heap.size wr w') : EnvB W eb day va n vc l w' :=
  ⟨h.row.stay fun g hg => k.block g (h.row.lt hg).1, h.len, only_below h.grow k, (k.block eb (lt_of_heap h.box)).trans h.box⟩
theorem EnvB.app {W : World} {eb : Nat} {day : Int} {va : Option Addr} {n vc : Nat} {l : List Fx} {wA w5 : World} {f : Fx} {g' cap : Nat} (h : EnvB W eb day va n vc l wA) (hcb : eb < W.heap.size)
    (hown : Row3 w5 W.heap.size (.slice (some ⟨g', 0, none⟩) (n + 1) cap) (l ++ [f])) (hg : wA.grownBy w5 (Value.slice va n vc).ownBlock) (hor : (Value.slice va n vc).ownBlock = some g' ∨ g' = wA.heap.size) :
    EnvB W eb day (some ⟨g', 0, none⟩) (n + 1) cap (l ++ [f]) (w5.setCell ⟨eb, 1, none⟩ (.slice (some ⟨g', 0, none⟩) (n + 1) cap)) := by
  have hg' : g' ≠ eb := by
    rcases hor with e | e
    · have := (h.row.lt e).2; omega
    · have := h.grow.size; omega
  have hst : ∀ b, b ≠ eb → (w5.setCell ⟨eb, 1, none⟩ (.slice (some ⟨g', 0, none⟩) (n + 1) cap)).heap[b]? = w5.heap[b]? := fun b hb => Below.heap_setCell _ _ _ _ hb
  have hfar : ∀ g, (Value.slice va n vc).ownBlock = some g → W.heap.size ≤ g := fun g hg => (h.row.lt hg).2
  refine ⟨hown.stay (fun g hg => by cases hg; exact hst _ hg'), by rw [List.length_append, h.len]; rfl, ?_, ?_⟩
  · exact only_set (grown_rowF h.grow hg hfar)
  · have hb5 : w5.heap[eb]? = some (.cells #[.int .i64 day, .slice va n vc] 63 (0, 0)) := (hg.block eb (Nat.lt_of_lt_of_le hcb h.grow.size) (fun e => by have := hfar eb e.symm; omega)).trans h.box
    exact heap_set_at (i := 1) _ hb5
/-- What env gives. -/
def EnvP (day : Int) (l : List Fx) (n : Nat) (w : World) (e : Ending) (w' : World) : Prop := (∃ a c, e = .returned (.agg #[.int .i64 day, .slice a n c]) ∧ FxA (fun b => w.heap.size ≤ b ∧ b < w'.heap.size) a l w') ∧ Below w.heap.size w w'
theorem env_made (e0 e1 : Value) (day : Int) (w : World) : ∀ W, ((w.alloc (.cells #[e0, e1] 58)).alloc (.cells #[.int .i64 0, .slice none 0 0] 63)).alloc (.cells #[.int .i64 day, .slice none 0 0] 63) = W → Below w.heap.size w W ∧ W.heap[w.heap.size]? = some (.cells #[e0, e1] 58 (0, 0)) ∧ W.heap[w.heap.size + 1]? = some (.cells #[.int .i64 0, .slice none 0 0] 63 (0, 0)) ∧ W.heap[w.heap.size + 1 + 1]? = some (.cells #[.int .i64 day, .slice none 0 0] 63 (0, 0)) := by
  rintro W rfl
  obtain ⟨k1, b1, s1⟩ := two_made e0 e1 58 w _ rfl
  obtain ⟨k2, b2, s2⟩ := two_made (.int .i64 0) (.slice none 0 0) 63 (w.alloc (.cells #[e0, e1] 58)) _ rfl
  obtain ⟨k3, b3, s3⟩ := two_made (.int .i64 day) (.slice none 0 0) 63 ((w.alloc (.cells #[e0, e1] 58)).alloc (.cells #[.int .i64 0, .slice none 0 0] 63)) _ rfl
  refine ⟨below_mono (below_mono k1 k2 (Nat.le_refl _)) k3 (Nat.le_refl _), (k3.block _ (by omega)).trans ((k2.block _ (by omega)).trans b1), (k3.block _ (by omega)).trans ?_, ?_⟩
  · rw [← s1]; exact b2
  · rw [show w.heap.size + 1 + 1 = ((w.alloc (.cells #[e0, e1] 58)).alloc (.cells #[.int .i64 0, .slice none 0 0] 63)).heap.size from by omega]; exact b3
theorem two_zero (w : World) (x0 x1 : Value) (T : TypeId) : ((w.alloc (.cells #[x0, x1] T)).cell? ⟨w.heap.size, 0, none⟩ = some x0 ∧ (w.alloc (.cells #[x0, x1] T)).cell? ⟨w.heap.size, 1, none⟩ = some x1) ∧ (w.alloc (.cells #[x0, x1] T)).frozen? ⟨w.heap.size, 0, none⟩ = false ∧ (w.alloc (.cells #[x0, x1] T)).frozen? ⟨w.heap.size, 1, none⟩ = false :=
  ⟨⟨World.cell?_alloc_at _ _ _ _ rfl, World.cell?_alloc_at _ _ _ _ rfl⟩, World.frozen?_alloc_at _ _ _ _ rfl, World.frozen?_alloc_at _ _ _ _ rfl⟩
set_option maxRecDepth 100000 in
set_option maxHeartbeats 8000000 in
theorem env_any {R : Nat → Prop} {ao : Option Addr} {l : List Fx} {cap : Nat} (day : Int) (w : World) (h : FxA R ao l w) (hl : l.length ≤ 200) (hR : ∀ b, R b → b < w.heap.size) :
    Calls Try.prog 36 #[.agg #[.int .i64 day, .slice ao l.length cap]] w (EnvP day l l.length w) := by
  obtain ⟨m, hm⟩ : ∃ m, m = l.length := ⟨_, rfl⟩
  rw [← hm]
  have GA := Lib.hid (env_made (.int .i64 day) (.slice ao m cap) day w)
  have HX : Hid (∀ W, Below w.heap.size w W → FxA R ao l W) := Lib.hid fun W hW => h.stay (fun _ h => h) fun b hb => hW.block b (hR b hb)
  have HM := Lib.hid hm
  have hm6 : m ≤ 200 := by omega
  obtain ⟨W1, hW1⟩ : ∃ X, (w.alloc (.cells #[.int .i64 day, .slice ao m cap] 58)).alloc (.cells #[.int .i64 0, .slice none 0 0] 63) = X := ⟨_, rfl⟩
  have h1 : ((w.alloc (.cells #[.int .i64 day, .slice ao m cap] 58)).alloc (.cells #[.int .i64 0, .slice none 0 0] 63)).cell? ⟨w.heap.size, 0, none⟩ = some (.int .i64 day) := by
    obtain ⟨k1, b1, s1⟩ := two_made (.int .i64 day) (.slice ao m cap) 58 w _ rfl
    obtain ⟨k2, b2, s2⟩ := two_made (.int .i64 0) (.slice none 0 0) 63 (w.alloc (.cells #[.int .i64 day, .slice ao m cap] 58)) _ rfl
    exact cell_blk ((k2.block _ (by omega)).trans b1) 0
  obtain ⟨⟨r0, r1⟩, p0, p1⟩ := two_zero ((w.alloc (.cells #[.int .i64 day, .slice ao m cap] 58)).alloc (.cells #[.int .i64 0, .slice none 0 0] 63)) (.int .i64 0) (.slice none 0 0) 63
  clear h hl hm hR hW1
  go_enter Try.func36, Try.ntmps36
  go_upto_region 2 with fail
  clear h1 r0 r1 p0 p1
  obtain ⟨W, hW⟩ : ∃ X, ((w.alloc (.cells #[.int .i64 day, .slice ao m cap] 58)).alloc (.cells #[.int .i64 0, .slice none 0 0] 63)).alloc (.cells #[.int .i64 day, .slice none 0 0] 63) = X := ⟨_, rfl⟩
  obtain ⟨g1, b1, b2, b3⟩ := GA.out W hW
  obtain ⟨z, hz⟩ : ∃ z, z = w.heap.size := ⟨_, rfl⟩
  rw [← hz] at b1 b2 b3
  rw [hW, ← hz]
  have HG := Lib.hid g1
  have HB1 := Lib.hid b1
  have HB2 := Lib.hid b2
  have HE0 : Hid (EnvB W (z + 1 + 1) day none 0 0 [] W) := Lib.hid ⟨Row3.nil _ _, rfl, World.grownBy.refl W _, b3⟩
  have HZ := Lib.hid (show z = w.heap.size ∧ z + 1 + 1 < W.heap.size from ⟨hz, lt_of_heap b3⟩)
  clear hW b1 b2 b3 g1 GA hz
  go_upto_region 3 with fail
  go_loopw [4] (fun v wr => ∃ (j : Nat) (va : Option Addr) (vc : Nat), j ≤ m ∧ v = .int .i64 j ∧ Hid (EnvB W (z + 1 + 1) day va j vc (l.take j) wr)) (fun v _ => m - (intOf v).toNat)
  case atStart => exact ⟨0, none, 0, by omega, rfl, HE0⟩
  case round =>
    obtain ⟨j, va, vc, hj, rfl, HE⟩ := hrel
    have HBW : Hid (Below w.heap.size w wr) := Lib.hid (HG.out.grown HE.out.grow HG.out.size (fun g hg => by cases hg; have := HZ.out; omega))
    have HZ1 : Hid (wr.heap[z]? = some (.cells #[.int .i64 day, .slice ao m cap] 58 (0, 0))) := Lib.hid ((HE.out.grow.block z (lt_of_heap HB1.out) (by intro e; injection e with e; omega)).trans HB1.out)
    have HZ2 : Hid (wr.heap[z + 1]? = some (.cells #[.int .i64 0, .slice none 0 0] 63 (0, 0))) := Lib.hid ((HE.out.grow.block (z + 1) (lt_of_heap HB2.out) (by intro e; injection e with e; omega)).trans HB2.out)
    obtain ⟨e0, e1⟩ := duo HZ1.out
    have j0 : (0 : Int) ≤ (j : Int) := by omega
    by_cases hlt : j < m
    · obtain ⟨f, hf⟩ : ∃ f, l[j]? = some f := ⟨_, List.getElem?_eq_getElem (by rw [← HM.out]; exact hlt)⟩
      obtain ⟨a, rfl, hra, y0, y1, y2⟩ := (HX.out wr HBW.out).get hf
      have HTK : Hid (l.take (j + 1) = l.take j ++ [f]) := Lib.hid (by rw [List.take_add_one, hf]; rfl)
      obtain ⟨fs, hfs⟩ : ∃ v, v = f.nm := ⟨_, rfl⟩
      obtain ⟨fd, hfd⟩ : ∃ v, v = f.day := ⟨_, rfl⟩
      obtain ⟨fv, hfv⟩ : ∃ v, v = f.val := ⟨_, rfl⟩
      have HFF : Hid (f = ⟨fs, fd, fv⟩) := Lib.hid (by rw [hfs, hfd, hfv])
      rw [← hfs] at y0
      rw [← hfd] at y1
      rw [← hfv] at y2
      have j1 : (j : Int) < (m : Int) := by omega
      have b1 := cell_blk HE.out.box 1
      simp only [List.getElem?_toArray] at b1
      have c1 : wr.cell? ⟨z + 1 + 1, 1, none⟩ = some (.slice va j vc) := cell_blk HE.out.box 1
      have f1 : wr.frozen? ⟨z + 1 + 1, 1, none⟩ = false := free_blk HE.out.box 1
      have HA4 := Lib.hid ((Below.refl wr.heap.size wr).alloc (Nat.le_refl _) (.cells #[.string fs, .int .i64 fd, .int .i64 fv] 83))
      have H4A : Hid ((wr.alloc (.cells #[.string fs, .int .i64 fd, .int .i64 fv] 83)).drew.heap[wr.heap.size]? = some (.cells #[.string fs, .int .i64 fd, .int .i64 fv] 83 (0, 0))) := Lib.hid (heap_alloc_new wr (.cells #[.string fs, .int .i64 fd, .int .i64 fv] 83))
      have HE4 : Hid (EnvB W (z + 1 + 1) day va j vc (l.take j) (wr.alloc (.cells #[.string fs, .int .i64 fd, .int .i64 fv] 83)).drew) := Lib.hid (HE.out.next HA4.out.drew)
      have c1a : (wr.alloc (.cells #[.string fs, .int .i64 fd, .int .i64 fv] 83)).cell? ⟨z + 1 + 1, 1, none⟩ = some (.slice va j vc) := cell_blk HE4.out.box 1
      clear hfs hfd hfv hf hra b1
      go_upto_region 5 with fail
      go_region_law (refine step_appF rfl _ _ rfl W.heap.size (.slice va j vc) _ rfl HE4.out.row wr.heap.size fs fd fv rfl H4A.out (by rw [HE4.out.len]; omega) HE4.out.grow.size ?_; rw [HE4.out.len]; intro g' cap' w5 hown hgr hor hgl; have HR5 := Lib.hid hown; have HG5 := Lib.hid hgr; have HO5 := Lib.hid hor; have HX5 := Lib.hid ((hgr.block (z + 1 + 1) (lt_of_heap HE4.out.box) (by intro e; have := (HE4.out.row.lt e.symm).2; have := HZ.out; omega)).trans HE4.out.box); have e5 : w5.cell? ⟨z + 1 + 1, 1, none⟩ = some (.slice va j vc) := cell_blk HX5.out 1; have f5 : w5.frozen? ⟨z + 1 + 1, 1, none⟩ = false := free_blk HX5.out 1; clear hown hgr hor hgl)
      all_goals
        go_wp2_with fail
        rw [← HFF.out] at HR5
        refine ⟨⟨j + 1, some ⟨g', 0, none⟩, cap', by omega, by go_num, ?_⟩, by simp [intOf]; omega⟩
        rw [HTK.out]
        exact Lib.hid (HE4.out.app HZ.out.2 HR5.out HG5.out HO5.out)
    · obtain rfl : j = m := by omega
      have HT : Hid (l.take j = l) := Lib.hid (List.take_of_length_le (by rw [HM.out]; exact Nat.le_refl _))
      rw [HT.out] at HE
      have j1 : ¬ (j : Int) < (j : Int) := by omega
      obtain ⟨c0, c1⟩ := duo HE.out.box
      obtain ⟨r0, r1⟩ := duo HZ2.out
      have p0 : wr.frozen? ⟨z + 1, 0, none⟩ = false := free_blk HZ2.out 0
      have p1 : wr.frozen? ⟨z + 1, 1, none⟩ = false := free_blk HZ2.out 1
      go_wp2_with fail
      obtain ⟨W9, hW9⟩ : ∃ X, ((wr.setCell ⟨z + 1, 0, none⟩ (.int .i64 day)).setCell ⟨z + 1, 1, none⟩ (.slice va j vc)) = X := ⟨_, rfl⟩
      have x9 : W9.heap[z + 1]? = some (.cells #[.int .i64 day, .slice va j vc] 63 (0, 0)) := by
        rw [← hW9]
        exact heap_set_at (i := 1) _ (heap_set_at (i := 0) (.int .i64 day) HZ2.out)
      have f9 : ∀ b, b ≠ z + 1 → W9.heap[b]? = wr.heap[b]? := fun b hb => by
        rw [← hW9]
        exact (Below.heap_setCell _ _ _ _ hb).trans (Below.heap_setCell _ _ _ _ hb)
      have s9 : W9.heap.size = wr.heap.size := by rw [← hW9]; simp
      have k9 : Below w.heap.size w W9 := by
        rw [← hW9]
        have hz1 : w.heap.size ≤ z + 1 := by have := HZ.out; omega
        exact (HBW.out.setCell (p := ⟨z + 1, 0, none⟩) hz1 _).setCell (p := ⟨z + 1, 1, none⟩) hz1 _
      rw [hW9]
      obtain ⟨d0, d1⟩ := duo x9
      have hfin : EnvP day l j w (.returned (.agg #[.int .i64 day, .slice va j vc])) W9 := ⟨⟨va, vc, rfl, HE.out.row.at.stay (fun b hb => ⟨by have h1 := HG.out.size; have h2 := hb.1; omega, by rw [s9]; exact hb.2⟩) fun b hb => f9 b (by have h1 := hb.1; have h2 := HZ.out.2; omega)⟩, k9⟩
      exact bodyPost_ret (v := .agg #[.int .i64 day, .slice va j vc]) (by simp [results, Try.results36, go_sem, d0, d1]) rfl hfin
end Go.Proofs.Ytidldlhhmophjaa
