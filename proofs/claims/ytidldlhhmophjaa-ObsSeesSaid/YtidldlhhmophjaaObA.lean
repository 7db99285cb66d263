/- Layer 22: what is seen. Conditions: those written at each theorem. -/
import Derived.Test.YtidldlhhmophjaaCkA
import Derived.Test.YtidldlhhmophjaaTrK
import Derived.Deep.CutBlock
namespace Go.Proofs.Ytidldlhhmophjaa
open Go.RowKit Go.PlainAid
set_option linter.unusedVariables false
set_option linter.unusedSimpArgs false
/-- A fixing. -/
structure Fx where
  nm : ByteArray
  day : Int
  val : Int
def Three (w : World) (a : Addr) (v0 v1 v2 : Value) : Prop := w.cell? a = some v0 ∧ w.cell? ⟨a.block, a.off + 1, none⟩ = some v1 ∧ w.cell? ⟨a.block, a.off + 2, none⟩ = some v2
/-- Fixings in memory, in blocks of R. -/
def FxA (R : Nat → Prop) (ao : Option Addr) (l : List Fx) (w : World) : Prop := l ≠ [] → ∃ a, ao = some a ∧ R a.block ∧ ∀ (i : Nat) f, l[i]? = some f → Three w (a.add (i * 3)) (.string f.nm) (.int .i64 f.day) (.int .i64 f.val)
theorem FxA.get {R : Nat → Prop} {ao : Option Addr} {l : List Fx} {w : World} (h : FxA R ao l w) {i : Nat} {f : Fx} (hf : l[i]? = some f) : ∃ a, ao = some a ∧ R a.block ∧ Three w (a.add (i * 3)) (.string f.nm) (.int .i64 f.day) (.int .i64 f.val) := by
  obtain ⟨a, h1, h2, h3⟩ := h (by intro e; rw [e] at hf; simp at hf)
  exact ⟨a, h1, h2, h3 i f hf⟩
theorem Three.stay {w w' : World} {a : Addr} {v0 v1 v2 : Value} (h : Three w a v0 v1 v2) (hb : w'.heap[a.block]? = w.heap[a.block]?) : Three w' a v0 v1 v2 :=
  ⟨(cell_heap hb).trans h.1, (cell_heap (a := ⟨a.block, a.off + 1, none⟩) hb).trans h.2.1, (cell_heap (a := ⟨a.block, a.off + 2, none⟩) hb).trans h.2.2⟩
theorem FxA.stay {R T : Nat → Prop} {w w' : World} {l : List Fx} {ao : Option Addr} (h : FxA R ao l w) (hT : ∀ b, R b → T b) (hS : ∀ b, R b → w'.heap[b]? = w.heap[b]?) : FxA T ao l w' := by
  intro hl
  obtain ⟨a, h1, h2, h3⟩ := h hl
  exact ⟨a, h1, hT _ h2, fun i f hf => (h3 i f hf).stay (by rw [add_block]; exact hS _ h2)⟩
def later (b : Option Fx) (f : Fx) : Bool := match b with | none => true | some g => decide (g.day < f.day)
theorem later_some (g f : Fx) : later (some g) f = decide (g.day < f.day) := rfl
/-- The fixing that counts. -/
def stepF (day : Int) (nm : ByteArray) (b : Option Fx) (f : Fx) : Option Fx :=
  if f.nm.toList = nm.toList ∧ f.day ≤ day ∧ later b f = true then some f else b
def seenF (day : Int) (nm : ByteArray) (l : List Fx) : Option Fx := l.foldl (stepF day nm) none
theorem seenF_snoc (day : Int) (nm : ByteArray) (l : List Fx) (f : Fx) : seenF day nm (l ++ [f]) = stepF day nm (seenF day nm l) f := by simp [seenF, List.foldl_append]
def snV (b : Option Fx) : Int := match b with | none => 0 | some f => f.val
def snB (b : Option Fx) : Bool := b.isSome
/-- A box of two, of three. -/
theorem two_made (v0 v1 : Value) (T : TypeId) (w : World) : ∀ W, w.alloc (.cells #[v0, v1] T) = W → Below w.heap.size w W ∧ W.heap[w.heap.size]? = some (.cells #[v0, v1] T (0, 0)) ∧ W.heap.size = w.heap.size + 1 := by
  rintro W rfl
  exact ⟨(Below.refl w.heap.size w).alloc (Nat.le_refl _) _, heap_alloc_new w _, by simp⟩
theorem three_made (v0 v1 v2 : Value) (T : TypeId) (w : World) : ∀ W, w.alloc (.cells #[v0, v1, v2] T) = W → Below w.heap.size w W ∧ W.heap[w.heap.size]? = some (.cells #[v0, v1, v2] T (0, 0)) ∧ W.heap.size = w.heap.size + 1 := by
  rintro W rfl
  exact ⟨(Below.refl w.heap.size w).alloc (Nat.le_refl _) _, heap_alloc_new w _, by simp⟩
theorem three_zero (w : World) (x0 x1 x2 : Value) (T : TypeId) : ((w.alloc (.cells #[x0, x1, x2] T)).cell? ⟨w.heap.size, 0, none⟩ = some x0 ∧ (w.alloc (.cells #[x0, x1, x2] T)).cell? ⟨w.heap.size, 1, none⟩ = some x1 ∧ (w.alloc (.cells #[x0, x1, x2] T)).cell? ⟨w.heap.size, 2, none⟩ = some x2) ∧ (w.alloc (.cells #[x0, x1, x2] T)).frozen? ⟨w.heap.size, 0, none⟩ = false ∧ (w.alloc (.cells #[x0, x1, x2] T)).frozen? ⟨w.heap.size, 1, none⟩ = false ∧ (w.alloc (.cells #[x0, x1, x2] T)).frozen? ⟨w.heap.size, 2, none⟩ = false :=
  ⟨⟨World.cell?_alloc_at _ _ _ _ rfl, World.cell?_alloc_at _ _ _ _ rfl, World.cell?_alloc_at _ _ _ _ rfl⟩, World.frozen?_alloc_at _ _ _ _ rfl, World.frozen?_alloc_at _ _ _ _ rfl, World.frozen?_alloc_at _ _ _ _ rfl⟩
theorem trio {w : World} {k : Nat} {c0 c1 c2 : Value} {t : TypeId} (h : w.heap[k]? = some (.cells #[c0, c1, c2] t (0, 0))) : w.cell? ⟨k, 0, none⟩ = some c0 ∧ w.cell? ⟨k, 1, none⟩ = some c1 ∧ w.cell? ⟨k, 2, none⟩ = some c2 := ⟨cell_blk h 0, cell_blk h 1, cell_blk h 2⟩
theorem duo {w : World} {k : Nat} {c0 c1 : Value} {t : TypeId} (h : w.heap[k]? = some (.cells #[c0, c1] t (0, 0))) : w.cell? ⟨k, 0, none⟩ = some c0 ∧ w.cell? ⟨k, 1, none⟩ = some c1 := ⟨cell_blk h 0, cell_blk h 1⟩
set_option maxRecDepth 100000 in
set_option maxHeartbeats 8000000 in
theorem seen_any {R : Nat → Prop} {ao : Option Addr} {l : List Fx} {cap : Nat} (day : Int) (nm : ByteArray) (w : World) (h : FxA R ao l w) (hl : l.length ≤ 200) (hR : ∀ b, R b → b < w.heap.size) :
    Calls Try.prog 35 #[.agg #[.int .i64 day, .slice ao l.length cap], .string nm] w fun e w' => e = .returned (.tuple #[.int .i64 (snV (seenF day nm l)), .bool (snB (seenF day nm l))]) ∧ Below w.heap.size w w' := by
  obtain ⟨m, hm⟩ : ∃ m, m = l.length := ⟨_, rfl⟩
  rw [← hm]
  obtain ⟨z, hz⟩ : ∃ z, z = w.heap.size := ⟨_, rfl⟩
  have GA := Lib.hid (two_made (.int .i64 day) (.slice ao m cap) 63 w)
  have HX : Hid (∀ W, Below w.heap.size w W → FxA R ao l W) := Lib.hid fun W hW => h.stay (fun _ h => h) fun b hb => hW.block b (hR b hb)
  have HM := Lib.hid hm
  have hm6 : m ≤ 200 := by omega
  have HAB : Hid (∀ b, R b → b < w.heap.size) := Lib.hid hR
  clear h hl hm hR
  go_enter Try.func35, Try.ntmps35
  go_upto_region 1 with fail
  obtain ⟨W, hW⟩ : ∃ X, w.alloc (.cells #[.int .i64 day, .slice ao m cap] 63) = X := ⟨_, rfl⟩
  obtain ⟨g1, b1, _⟩ := GA.out W hW
  rw [← hz] at b1
  rw [hW, ← hz]
  have HG := Lib.hid g1
  have HB1 := Lib.hid b1
  obtain ⟨c0, c1⟩ := duo b1
  clear hW b1 g1 GA hz
  go_upto_region 3 with fail
  go_loopw [6, 12] (fun av v wr => ∃ (j : Nat) (ai : Int), j ≤ m ∧ v = .int .i64 j ∧ av = .int .i64 ai ∧ ai < j ∧ Hid (ai = -1 ∧ seenF day nm (l.take j) = none ∨ ∃ (i : Nat) (g : Fx), ai = i ∧ l[i]? = some g ∧ seenF day nm (l.take j) = some g) ∧ Hid (Below W.heap.size W wr)) (fun _ v _ => m - (intOf v).toNat)
  case atStart => exact ⟨0, -1, by omega, rfl, rfl, by omega, Lib.hid (.inl ⟨rfl, rfl⟩), Lib.hid (Below.refl _ _)⟩
  case round =>
    obtain ⟨j, ai, hj, rfl, rfl, hai, HA, HR⟩ := hrel
    have HWR : Hid (Below w.heap.size w wr) := Lib.hid (below_mono HG.out HR.out (Nat.le_refl _))
    clear c0 c1
    by_cases hlt : j < m
    · obtain ⟨f, hf⟩ : ∃ f, l[j]? = some f := ⟨_, List.getElem?_eq_getElem (by rw [← HM.out]; exact hlt)⟩
      have HTK : Hid (seenF day nm (l.take (j + 1)) = stepF day nm (seenF day nm (l.take j)) f) := Lib.hid (by rw [List.take_add_one, hf]; exact seenF_snoc _ _ _ _)
      obtain ⟨a, rfl, hra, y0, y1, y2⟩ := (HX.out wr HWR.out).get hf
      have HFJ := Lib.hid hf
      obtain ⟨fs, hfs⟩ : ∃ v, v = f.nm := ⟨_, rfl⟩
      obtain ⟨fd, hfd⟩ : ∃ v, v = f.day := ⟨_, rfl⟩
      obtain ⟨fv, hfv⟩ : ∃ v, v = f.val := ⟨_, rfl⟩
      rw [← hfs] at y0
      rw [← hfd] at y1
      rw [← hfv] at y2
      have HFE := Lib.hid (And.intro hfs (And.intro hfd hfv))
      have j0 : (0 : Int) ≤ (j : Int) := by omega
      have j1 : (j : Int) < (m : Int) := by omega
      have HRA := Lib.hid hra
      obtain ⟨⟨r0, r1, r2⟩, p0, p1, p2⟩ := three_zero wr (.string ⟨#[]⟩) (.int .i64 0) (.int .i64 0) 83
      clear hfs hfd hfv hf hra
      go_upto_region 5 with fail
      clear r0 r1 r2 p0 p1 p2 y0 y1 y2
      obtain ⟨W3, hW3⟩ : ∃ X, wr.alloc (.cells #[.string fs, .int .i64 fd, .int .i64 fv] 83) = X := ⟨_, rfl⟩
      obtain ⟨k3, b3, s3⟩ := three_made _ _ _ _ wr W3 hW3
      obtain ⟨u, hu⟩ : ∃ u, u = wr.heap.size := ⟨_, rfl⟩
      rw [hW3, ← hu]
      rw [← hu] at b3
      have HB3 := Lib.hid (below_mono HR.out k3 (Nat.le_refl _))
      have HX3 := Lib.hid b3
      have HWZ := Lib.hid ((k3.block z (by have := lt_of_heap HB1.out; have := HR.out.size; omega)).trans ((HR.out.block z (lt_of_heap HB1.out)).trans HB1.out))
      obtain ⟨y0, y1, y2⟩ := trio b3
      obtain ⟨c0, c1⟩ := duo HWZ.out
      clear hW3 b3 k3 s3 hu
      by_cases hn : fs.toList = nm.toList
      · have f1 : (fs.toList == nm.toList) = true := by simp [hn]
        by_cases hd : fd ≤ day
        · rcases HA.out with ⟨rfl, hs⟩ | ⟨i, g, rfl, hg, hs⟩
          · have HN : Hid (seenF day nm (l.take (j + 1)) = some f) := Lib.hid (by
              rw [HTK.out, hs]
              unfold stepF
              rw [← HFE.out.1, ← HFE.out.2.1, if_pos ⟨hn, hd, rfl⟩])
            have HFJ2 := Lib.hid HFJ.out
            clear hs hn HA HTK
            go_quiet (fail)
            go_wp2_with fail
            refine ⟨⟨j + 1, j, by omega, by go_num, rfl, by omega, Lib.hid (.inr ⟨j, f, rfl, HFJ2.out, HN.out⟩), Lib.hid (below_drewN HB3.out _)⟩, by simp [intOf]; omega⟩
          · have hgl := (List.getElem?_eq_some_iff.1 hg).1
            obtain ⟨a', ha', _, g0, g1, g2⟩ := (HX.out W3 (below_mono HG.out HB3.out (Nat.le_refl _))).get hg
            cases ha'
            obtain ⟨gd, hgd⟩ : ∃ v, v = g.day := ⟨_, rfl⟩
            rw [← hgd] at g1
            have HGD := Lib.hid hgd
            have HS := Lib.hid hs
            have HGI := Lib.hid hg
            have i0 : (0 : Int) ≤ (i : Int) := by omega
            have i1 : (i : Int) < (m : Int) := by omega
            have i2 : ((i : Int) < 0) = False := by simp
            clear hgd hs hg HA hgl
            by_cases hlt2 : gd < fd
            · have HN : Hid (seenF day nm (l.take (j + 1)) = some f) := Lib.hid (by
                rw [HTK.out, HS.out]
                unfold stepF
                rw [if_pos ⟨by rw [← HFE.out.1]; exact hn, by rw [← HFE.out.2.1]; exact hd, by rw [later_some, ← HFE.out.2.1, ← HGD.out]; exact decide_eq_true hlt2⟩])
              have HFJ2 := Lib.hid HFJ.out
              clear hn HTK
              go_quiet (fail)
              go_wp2_with fail
              refine ⟨⟨j + 1, j, by omega, by go_num, rfl, by omega, Lib.hid (.inr ⟨j, f, rfl, HFJ2.out, HN.out⟩), Lib.hid (below_drewN HB3.out _)⟩, by simp [intOf]; omega⟩
            · have HN : Hid (seenF day nm (l.take (j + 1)) = some g) := Lib.hid (by
                rw [HTK.out, HS.out]
                unfold stepF
                rw [if_neg (fun h => hlt2 (by have h3 := h.2.2; rw [later_some, ← HFE.out.2.1, ← HGD.out] at h3; exact of_decide_eq_true h3))])
              clear hn HTK
              go_quiet (fail)
              go_wp2_with fail
              refine ⟨⟨j + 1, i, by omega, by go_num, rfl, by omega, Lib.hid (.inr ⟨i, g, rfl, HGI.out, HN.out⟩), Lib.hid (below_drewN HB3.out _)⟩, by simp [intOf]; omega⟩
        · have HN : Hid (seenF day nm (l.take (j + 1)) = seenF day nm (l.take j)) := Lib.hid (by
            rw [HTK.out]
            unfold stepF
            rw [← HFE.out.2.1, if_neg (fun h => hd h.2.1)])
          clear hn HTK
          go_quiet (fail)
          go_wp2_with fail
          refine ⟨⟨j + 1, ai, by omega, by go_num, rfl, by omega, Lib.hid (by rw [HN.out]; exact HA.out), Lib.hid (below_drewN HB3.out _)⟩, by simp [intOf]; omega⟩
      · have f1 : (fs.toList == nm.toList) = false := by simp [hn]
        have HN : Hid (seenF day nm (l.take (j + 1)) = seenF day nm (l.take j)) := Lib.hid (by
          rw [HTK.out]
          unfold stepF
          rw [← HFE.out.1, if_neg (fun h => hn h.1)])
        clear hn HTK
        go_quiet (fail)
        go_wp2_with fail
        refine ⟨⟨j + 1, ai, by omega, by go_num, rfl, by omega, Lib.hid (by rw [HN.out]; exact HA.out), Lib.hid (below_drewN HB3.out _)⟩, by simp [intOf]; omega⟩
    · obtain rfl : j = m := by omega
      have hA := HA.out
      rw [List.take_of_length_le (by rw [HM.out]; exact Nat.le_refl _)] at hA
      have HBZ := Lib.hid ((HR.out.block z (lt_of_heap HB1.out)).trans HB1.out)
      obtain ⟨c0, c1⟩ := duo HBZ.out
      have j1 : ¬ (j : Int) < (j : Int) := by omega
      rcases hA with ⟨rfl, hs⟩ | ⟨i, g, rfl, hg, hs⟩
      · have HS := Lib.hid hs
        clear hs HA
        go_wp2_with fail
        go_ret2
        exact ⟨by rw [HS.out]; rfl, HWR.out⟩
      · have hgl := (List.getElem?_eq_some_iff.1 hg).1
        obtain ⟨a, rfl, _, g0, g1, g2⟩ := (HX.out wr HWR.out).get hg
        obtain ⟨gv, hgv⟩ : ∃ v, v = g.val := ⟨_, rfl⟩
        rw [← hgv] at g2
        have HS := Lib.hid hs
        have HGV := Lib.hid hgv
        have i0 : (0 : Int) ≤ (i : Int) := by omega
        have i1 : (i : Int) < (j : Int) := by omega
        have i2 : ((i : Int) < 0) = False := by simp
        clear hs HA hgv hg hgl
        go_wp2_with fail
        go_ret2
        exact ⟨by rw [HS.out, HGV.out]; rfl, HWR.out⟩
set_option maxRecDepth 100000 in
set_option maxHeartbeats 8000000 in
theorem rseen_any {R : Nat → Prop} {ao : Option Addr} {l : List Fx} {cap : Nat} (day : Int) (nm : ByteArray) (w : World) (h : FxA R ao l w) (hl : l.length ≤ 200) (hR : ∀ b, R b → b < w.heap.size) :
    Calls Try.prog 37 #[.agg #[.int .i64 day, .slice ao l.length cap], .string nm] w fun e w' => e = .returned (.tuple #[.int .i64 (snV (seenF day nm l)), .bool (snB (seenF day nm l))]) ∧ Below w.heap.size w w' := by
  obtain ⟨m, hm⟩ : ∃ m, m = l.length := ⟨_, rfl⟩
  rw [← hm]
  obtain ⟨z, hz⟩ : ∃ z, z = w.heap.size := ⟨_, rfl⟩
  have GA := Lib.hid (two_made (.int .i64 day) (.slice ao m cap) 58 w)
  have HX : Hid (∀ W, Below w.heap.size w W → FxA R ao l W) := Lib.hid fun W hW => h.stay (fun _ h => h) fun b hb => hW.block b (hR b hb)
  have HM := Lib.hid hm
  have hm6 : m ≤ 200 := by omega
  have HAB : Hid (∀ b, R b → b < w.heap.size) := Lib.hid hR
  clear h hl hm hR
  go_enter Try.func37, Try.ntmps37
  go_upto_region 1 with fail
  obtain ⟨W, hW⟩ : ∃ X, w.alloc (.cells #[.int .i64 day, .slice ao m cap] 58) = X := ⟨_, rfl⟩
  obtain ⟨g1, b1, _⟩ := GA.out W hW
  rw [← hz] at b1
  rw [hW, ← hz]
  have HG := Lib.hid g1
  have HB1 := Lib.hid b1
  obtain ⟨c0, c1⟩ := duo b1
  clear hW b1 g1 GA hz
  go_upto_region 5 with fail
  go_loopw [6, 7, 8, 9] (fun fv' dv' nv' v wr => ∃ (j : Nat) (fb : Bool) (dv nv : Int), j ≤ m ∧ v = .int .i64 j ∧ fv' = .bool fb ∧ dv' = .int .i64 dv ∧ nv' = .int .i64 nv ∧ Hid ((fb = false ∧ dv = 0 ∧ nv = 0 ∧ seenF day nm (l.take j) = none) ∨ ∃ g : Fx, fb = true ∧ dv = g.day ∧ nv = g.val ∧ seenF day nm (l.take j) = some g) ∧ Hid (Below W.heap.size W wr)) (fun _ _ _ v _ => m - (intOf v).toNat)
  case atStart => exact ⟨0, false, 0, 0, by omega, rfl, rfl, rfl, rfl, Lib.hid (.inl ⟨rfl, rfl, rfl, rfl⟩), Lib.hid (Below.refl _ _)⟩
  case round =>
    obtain ⟨j, fb, dv, nv, hj, rfl, rfl, rfl, rfl, HA, HR⟩ := hrel
    have HWR : Hid (Below w.heap.size w wr) := Lib.hid (below_mono HG.out HR.out (Nat.le_refl _))
    clear c0 c1
    obtain ⟨c0, c1⟩ := duo ((HR.out.block z (lt_of_heap HB1.out)).trans HB1.out)
    by_cases hlt : j < m
    · obtain ⟨f, hf⟩ : ∃ f, l[j]? = some f := ⟨_, List.getElem?_eq_getElem (by rw [← HM.out]; exact hlt)⟩
      have HTK : Hid (seenF day nm (l.take (j + 1)) = stepF day nm (seenF day nm (l.take j)) f) := Lib.hid (by rw [List.take_add_one, hf]; exact seenF_snoc _ _ _ _)
      obtain ⟨a, rfl, hra, y0, y1, y2⟩ := (HX.out wr HWR.out).get hf
      have HFJ := Lib.hid hf
      obtain ⟨fs, hfs⟩ : ∃ v, v = f.nm := ⟨_, rfl⟩
      obtain ⟨fd, hfd⟩ : ∃ v, v = f.day := ⟨_, rfl⟩
      obtain ⟨fv, hfv⟩ : ∃ v, v = f.val := ⟨_, rfl⟩
      rw [← hfs] at y0
      rw [← hfd] at y1
      rw [← hfv] at y2
      have HFE := Lib.hid (And.intro hfs (And.intro hfd hfv))
      have j0 : (0 : Int) ≤ (j : Int) := by omega
      have j1 : (j : Int) < (m : Int) := by omega
      have HRA := Lib.hid hra
      obtain ⟨⟨r0, r1, r2⟩, p0, p1, p2⟩ := three_zero wr (.string ⟨#[]⟩) (.int .i64 0) (.int .i64 0) 80
      clear hfs hfd hfv hf hra
      go_upto_region 8 with fail
      clear r0 r1 r2 p0 p1 p2 y0 y1 y2 c0 c1
      obtain ⟨W3, hW3⟩ : ∃ X, wr.alloc (.cells #[.string fs, .int .i64 fd, .int .i64 fv] 80) = X := ⟨_, rfl⟩
      obtain ⟨k3, b3, s3⟩ := three_made _ _ _ _ wr W3 hW3
      obtain ⟨u, hu⟩ : ∃ u, u = wr.heap.size := ⟨_, rfl⟩
      rw [hW3, ← hu]
      rw [← hu] at b3
      have HB3 := Lib.hid (below_mono HR.out k3 (Nat.le_refl _))
      have HX3 := Lib.hid b3
      have HWZ := Lib.hid ((k3.block z (by have := lt_of_heap HB1.out; have := HR.out.size; omega)).trans ((HR.out.block z (lt_of_heap HB1.out)).trans HB1.out))
      obtain ⟨y0, y1, y2⟩ := trio b3
      obtain ⟨c0, c1⟩ := duo HWZ.out
      clear hW3 b3 k3 s3 hu
      by_cases hn : fs.toList = nm.toList
      · have f1 : (fs.toList == nm.toList) = true := by simp [hn]
        by_cases hd : fd ≤ day
        · cases fb with
          | false =>
            have HN : Hid (seenF day nm (l.take (j + 1)) = some f) := Lib.hid (by
              have hs : seenF day nm (l.take j) = none := by
                rcases HA.out with ⟨_, _, _, h⟩ | ⟨g, h, _⟩
                · exact h
                · cases h
              rw [HTK.out, hs]
              unfold stepF
              rw [← HFE.out.1, ← HFE.out.2.1, if_pos ⟨hn, hd, rfl⟩])
            clear hn HA HTK
            go_wp2_with fail
            refine ⟨⟨j + 1, true, fd, fv, by omega, by go_num, rfl, rfl, rfl, Lib.hid (.inr ⟨f, rfl, HFE.out.2.1, HFE.out.2.2, HN.out⟩), Lib.hid HB3.out⟩, by simp [intOf]; omega⟩
          | true =>
            obtain ⟨g, hs, hgd⟩ : ∃ g, seenF day nm (l.take j) = some g ∧ dv = g.day := by
              rcases HA.out with ⟨h, _⟩ | ⟨g, _, h, _, h2⟩
              · cases h
              · exact ⟨g, h2, h⟩
            have HS := Lib.hid hs
            have HGD := Lib.hid hgd
            clear hs hgd
            by_cases hlt2 : dv < fd
            · have HN : Hid (seenF day nm (l.take (j + 1)) = some f) := Lib.hid (by
                rw [HTK.out, HS.out]
                unfold stepF
                rw [if_pos ⟨by rw [← HFE.out.1]; exact hn, by rw [← HFE.out.2.1]; exact hd, by rw [later_some, ← HFE.out.2.1, ← HGD.out]; exact decide_eq_true hlt2⟩])
              clear hn HTK HA
              go_wp2_with fail
              refine ⟨⟨j + 1, true, fd, fv, by omega, by go_num, rfl, rfl, rfl, Lib.hid (.inr ⟨f, rfl, HFE.out.2.1, HFE.out.2.2, HN.out⟩), Lib.hid HB3.out⟩, by simp [intOf]; omega⟩
            · have HN : Hid (seenF day nm (l.take (j + 1)) = seenF day nm (l.take j)) := Lib.hid (by
                rw [HTK.out, HS.out]
                unfold stepF
                rw [if_neg (fun h => hlt2 (by have h3 := h.2.2; rw [later_some, ← HFE.out.2.1, ← HGD.out] at h3; exact of_decide_eq_true h3))])
              clear hn HTK
              go_wp2_with fail
              refine ⟨⟨j + 1, true, dv, nv, by omega, by go_num, rfl, rfl, rfl, Lib.hid (by rw [HN.out]; exact HA.out), Lib.hid HB3.out⟩, by simp [intOf]; omega⟩
        · have HN : Hid (seenF day nm (l.take (j + 1)) = seenF day nm (l.take j)) := Lib.hid (by
            rw [HTK.out]
            unfold stepF
            rw [← HFE.out.2.1, if_neg (fun h => hd h.2.1)])
          clear hn HTK
          go_wp2_with fail
          refine ⟨⟨j + 1, fb, dv, nv, by omega, by go_num, rfl, rfl, rfl, Lib.hid (by rw [HN.out]; exact HA.out), Lib.hid HB3.out⟩, by simp [intOf]; omega⟩
      · have f1 : (fs.toList == nm.toList) = false := by simp [hn]
        have HN : Hid (seenF day nm (l.take (j + 1)) = seenF day nm (l.take j)) := Lib.hid (by
          rw [HTK.out]
          unfold stepF
          rw [← HFE.out.1, if_neg (fun h => hn h.1)])
        clear hn HTK
        go_wp2_with fail
        refine ⟨⟨j + 1, fb, dv, nv, by omega, by go_num, rfl, rfl, rfl, Lib.hid (by rw [HN.out]; exact HA.out), Lib.hid HB3.out⟩, by simp [intOf]; omega⟩
    · obtain rfl : j = m := by omega
      have hA := HA.out
      rw [List.take_of_length_le (by rw [HM.out]; exact Nat.le_refl _)] at hA
      have HF : Hid (nv = snV (seenF day nm l) ∧ fb = snB (seenF day nm l)) := Lib.hid (by
        rcases hA with ⟨h1, h2, h3, h4⟩ | ⟨g, h1, h2, h3, h4⟩
        · rw [h4, h1, h3]; exact ⟨rfl, rfl⟩
        · rw [h4, h1, h3]; exact ⟨rfl, rfl⟩)
      have j1 : ¬ (j : Int) < (j : Int) := by omega
      clear hA HA
      go_wp2_with fail
      go_ret2
      exact ⟨by rw [← HF.out.1, ← HF.out.2]; rfl, HWR.out⟩
end Go.Proofs.Ytidldlhhmophjaa
