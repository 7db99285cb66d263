/- Layer 22: what is seen, Eval, the laws' env, the document's example. Conditions: those written at each theorem. -/
import Derived.Test.YtidldlhhmophjaaCkP
import Derived.Test.YtidldlhhmophjaaTrK
import Derived.Deep.CutBlock
import Derived.Deep.RegionHeld3
import Derived.Lib.QuietBelow
import Derived.BigQuiet
import Derived.Test.YtidldlhhmophjaaTrJ
import Derived.Deep.RegionLaw
import Derived.Test.YtidldlhhmophjaaTrQ
namespace Go.Proofs.Ytidldlhhmophjaa
open Go.RowKit Go.PlainAid
set_option linter.unusedVariables false
set_option linter.unusedSimpArgs false
/-- A fixing. -/
structure Fx where
  nm : ByteArray
  day : Int
  val : Int
def Three (w : World) (a : Addr) (v0 v1 v2 : Value) : Prop := w.cell? a = some v0 ∧ w.cell? ⟨a.block, a.off + 1, none⟩ = some v1 ∧ w.cell? ⟨a.block, a.off + 2, none⟩ = some v2
/-- Fixings in memory, in blocks of R. -/
def FxA (R : Nat → Prop) (ao : Option Addr) (l : List Fx) (w : World) : Prop := l ≠ [] → ∃ a, ao = some a ∧ R a.block ∧ ∀ (i : Nat) f, l[i]? = some f → Three w (a.add (i * 3)) (.string f.nm) (.int .i64 f.day) (.int .i64 f.val)
theorem FxA.get {R : Nat → Prop} {ao : Option Addr} {l : List Fx} {w : World} (h : FxA R ao l w) {i : Nat} {f : Fx} (hf : l[i]? = some f) : ∃ a, ao = some a ∧ R a.block ∧ Three w (a.add (i * 3)) (.string f.nm) (.int .i64 f.day) (.int .i64 f.val) := by
  obtain ⟨a, h1, h2, h3⟩ := h (by intro e; rw [e] at hf; simp at hf)
  exact ⟨a, h1, h2, h3 i f hf⟩
theorem Three.stay {w w' : World} {a : Addr} {v0 v1 v2 : Value} (h : Three w a v0 v1 v2) (hb : w'.heap[a.block]? = w.heap[a.block]?) : Three w' a v0 v1 v2 :=
  ⟨(cell_heap hb).trans h.1, (cell_heap (a := ⟨a.block, a.off + 1, none⟩) hb).trans h.2.1, (cell_heap (a := ⟨a.block, a.off + 2, none⟩) hb).trans h.2.2⟩
theorem FxA.stay {R T : Nat → Prop} {w w' : World} {l : List Fx} {ao : Option Addr} (h : FxA R ao l w) (hT : ∀ b, R b → T b) (hS : ∀ b, R b → w'.heap[b]? = w.heap[b]?) : FxA T ao l w' := by
  intro hl
  obtain ⟨a, h1, h2, h3⟩ := h hl
  exact ⟨a, h1, hT _ h2, fun i f hf => (h3 i f hf).stay (by rw [add_block]; exact hS _ h2)⟩
def later (b : Option Fx) (f : Fx) : Bool := match b with | none => true | some g => decide (g.day < f.day)
theorem later_some (g f : Fx) : later (some g) f = decide (g.day < f.day) := rfl
/-- The fixing that counts. -/
def stepF (day : Int) (nm : ByteArray) (b : Option Fx) (f : Fx) : Option Fx :=
  if f.nm.toList = nm.toList ∧ f.day ≤ day ∧ later b f = true then some f else b
def seenF (day : Int) (nm : ByteArray) (l : List Fx) : Option Fx := l.foldl (stepF day nm) none
theorem seenF_snoc (day : Int) (nm : ByteArray) (l : List Fx) (f : Fx) : seenF day nm (l ++ [f]) = stepF day nm (seenF day nm l) f := by simp [seenF, List.foldl_append]
def snV (b : Option Fx) : Int := match b with | none => 0 | some f => f.val
def snB (b : Option Fx) : Bool := b.isSome
/-- A box of two, of three. -/
theorem two_made (v0 v1 : Value) (T : TypeId) (w : World) : ∀ W, w.alloc (.cells #[v0, v1] T) = W → Below w.heap.size w W ∧ W.heap[w.heap.size]? = some (.cells #[v0, v1] T (0, 0)) ∧ W.heap.size = w.heap.size + 1 := by
  rintro W rfl
  exact ⟨(Below.refl w.heap.size w).alloc (Nat.le_refl _) _, heap_alloc_new w _, by simp⟩
theorem three_made (v0 v1 v2 : Value) (T : TypeId) (w : World) : ∀ W, w.alloc (.cells #[v0, v1, v2] T) = W → Below w.heap.size w W ∧ W.heap[w.heap.size]? = some (.cells #[v0, v1, v2] T (0, 0)) ∧ W.heap.size = w.heap.size + 1 := by
  rintro W rfl
  exact ⟨(Below.refl w.heap.size w).alloc (Nat.le_refl _) _, heap_alloc_new w _, by simp⟩
theorem three_zero (w : World) (x0 x1 x2 : Value) (T : TypeId) : ((w.alloc (.cells #[x0, x1, x2] T)).cell? ⟨w.heap.size, 0, none⟩ = some x0 ∧ (w.alloc (.cells #[x0, x1, x2] T)).cell? ⟨w.heap.size, 1, none⟩ = some x1 ∧ (w.alloc (.cells #[x0, x1, x2] T)).cell? ⟨w.heap.size, 2, none⟩ = some x2) ∧ (w.alloc (.cells #[x0, x1, x2] T)).frozen? ⟨w.heap.size, 0, none⟩ = false ∧ (w.alloc (.cells #[x0, x1, x2] T)).frozen? ⟨w.heap.size, 1, none⟩ = false ∧ (w.alloc (.cells #[x0, x1, x2] T)).frozen? ⟨w.heap.size, 2, none⟩ = false :=
  ⟨⟨World.cell?_alloc_at _ _ _ _ rfl, World.cell?_alloc_at _ _ _ _ rfl, World.cell?_alloc_at _ _ _ _ rfl⟩, World.frozen?_alloc_at _ _ _ _ rfl, World.frozen?_alloc_at _ _ _ _ rfl, World.frozen?_alloc_at _ _ _ _ rfl⟩
theorem trio {w : World} {k : Nat} {c0 c1 c2 : Value} {t : TypeId} (h : w.heap[k]? = some (.cells #[c0, c1, c2] t (0, 0))) : w.cell? ⟨k, 0, none⟩ = some c0 ∧ w.cell? ⟨k, 1, none⟩ = some c1 ∧ w.cell? ⟨k, 2, none⟩ = some c2 := ⟨cell_blk h 0, cell_blk h 1, cell_blk h 2⟩
theorem duo {w : World} {k : Nat} {c0 c1 : Value} {t : TypeId} (h : w.heap[k]? = some (.cells #[c0, c1] t (0, 0))) : w.cell? ⟨k, 0, none⟩ = some c0 ∧ w.cell? ⟨k, 1, none⟩ = some c1 := ⟨cell_blk h 0, cell_blk h 1⟩
set_option maxRecDepth 100000 in
set_option maxHeartbeats 8000000 in
theorem seen_any {R : Nat → Prop} {ao : Option Addr} {l : List Fx} {cap : Nat} (day : Int) (nm : ByteArray) (w : World) (h : FxA R ao l w) (hl : l.length ≤ 200) (hR : ∀ b, R b → b < w.heap.size) :
    Calls Try.prog 35 #[.agg #[.int .i64 day, .slice ao l.length cap], .string nm] w fun e w' => e = .returned (.tuple #[.int .i64 (snV (seenF day nm l)), .bool (snB (seenF day nm l))]) ∧ Below w.heap.size w w' := by
  obtain ⟨m, hm⟩ : ∃ m, m = l.length := ⟨_, rfl⟩
  rw [← hm]
  obtain ⟨z, hz⟩ : ∃ z, z = w.heap.size := ⟨_, rfl⟩
  have GA := Lib.hid (two_made (.int .i64 day) (.slice ao m cap) 63 w)
  have HX : Hid (∀ W, Below w.heap.size w W → FxA R ao l W) := Lib.hid fun W hW => h.stay (fun _ h => h) fun b hb => hW.block b (hR b hb)
  have HM := Lib.hid hm
  have hm6 : m ≤ 200 := by omega
  have HAB : Hid (∀ b, R b → b < w.heap.size) := Lib.hid hR
  clear h hl hm hR
  go_enter Try.func35, Try.ntmps35
  go_upto_region 1 with fail
  obtain ⟨W, hW⟩ : ∃ X, w.alloc (.cells #[.int .i64 day, .slice ao m cap] 63) = X := ⟨_, rfl⟩
  obtain ⟨g1, b1, _⟩ := GA.out W hW
  rw [← hz] at b1
  rw [hW, ← hz]
  have HG := Lib.hid g1
  have HB1 := Lib.hid b1
  obtain ⟨c0, c1⟩ := duo b1
  clear hW b1 g1 GA hz
  go_upto_region 3 with fail
  go_loopw [6, 12] (fun av v wr => ∃ (j : Nat) (ai : Int), j ≤ m ∧ v = .int .i64 j ∧ av = .int .i64 ai ∧ ai < j ∧ Hid (ai = -1 ∧ seenF day nm (l.take j) = none ∨ ∃ (i : Nat) (g : Fx), ai = i ∧ l[i]? = some g ∧ seenF day nm (l.take j) = some g) ∧ Hid (Below W.heap.size W wr)) (fun _ v _ => m - (intOf v).toNat)
  case atStart => exact ⟨0, -1, by omega, rfl, rfl, by omega, Lib.hid (.inl ⟨rfl, rfl⟩), Lib.hid (Below.refl _ _)⟩
  case round =>
    obtain ⟨j, ai, hj, rfl, rfl, hai, HA, HR⟩ := hrel
    have HWR : Hid (Below w.heap.size w wr) := Lib.hid (below_mono HG.out HR.out (Nat.le_refl _))
    clear c0 c1
    by_cases hlt : j < m
    · obtain ⟨f, hf⟩ : ∃ f, l[j]? = some f := ⟨_, List.getElem?_eq_getElem (by rw [← HM.out]; exact hlt)⟩
      have HTK : Hid (seenF day nm (l.take (j + 1)) = stepF day nm (seenF day nm (l.take j)) f) := Lib.hid (by rw [List.take_add_one, hf]; exact seenF_snoc _ _ _ _)
      obtain ⟨a, rfl, hra, y0, y1, y2⟩ := (HX.out wr HWR.out).get hf
      have HFJ := Lib.hid hf
      obtain ⟨fs, hfs⟩ : ∃ v, v = f.nm := ⟨_, rfl⟩
      obtain ⟨fd, hfd⟩ : ∃ v, v = f.day := ⟨_, rfl⟩
      obtain ⟨fv, hfv⟩ : ∃ v, v = f.val := ⟨_, rfl⟩
      rw [← hfs] at y0
      rw [← hfd] at y1
      rw [← hfv] at y2
      have HFE := Lib.hid (And.intro hfs (And.intro hfd hfv))
      have j0 : (0 : Int) ≤ (j : Int) := by omega
      have j1 : (j : Int) < (m : Int) := by omega
      have HRA := Lib.hid hra
      obtain ⟨⟨r0, r1, r2⟩, p0, p1, p2⟩ := three_zero wr (.string ⟨#[]⟩) (.int .i64 0) (.int .i64 0) 83
      clear hfs hfd hfv hf hra
      go_upto_region 5 with fail
      clear r0 r1 r2 p0 p1 p2 y0 y1 y2
      obtain ⟨W3, hW3⟩ : ∃ X, wr.alloc (.cells #[.string fs, .int .i64 fd, .int .i64 fv] 83) = X := ⟨_, rfl⟩
      obtain ⟨k3, b3, s3⟩ := three_made _ _ _ _ wr W3 hW3
      obtain ⟨u, hu⟩ : ∃ u, u = wr.heap.size := ⟨_, rfl⟩
      rw [hW3, ← hu]
      rw [← hu] at b3
      have HB3 := Lib.hid (below_mono HR.out k3 (Nat.le_refl _))
      have HX3 := Lib.hid b3
      have HWZ := Lib.hid ((k3.block z (by have := lt_of_heap HB1.out; have := HR.out.size; omega)).trans ((HR.out.block z (lt_of_heap HB1.out)).trans HB1.out))
      obtain ⟨y0, y1, y2⟩ := trio b3
      obtain ⟨c0, c1⟩ := duo HWZ.out
      clear hW3 b3 k3 s3 hu
      by_cases hn : fs.toList = nm.toList
      · have f1 : (fs.toList == nm.toList) = true := by simp [hn]
        by_cases hd : fd ≤ day
        · rcases HA.out with ⟨rfl, hs⟩ | ⟨i, g, rfl, hg, hs⟩
          · have HN : Hid (seenF day nm (l.take (j + 1)) = some f) := Lib.hid (by
              rw [HTK.out, hs]
              unfold stepF
              rw [← HFE.out.1, ← HFE.out.2.1, if_pos ⟨hn, hd, rfl⟩])
            have HFJ2 := Lib.hid HFJ.out
            clear hs hn HA HTK
            go_quiet (fail)
            go_wp2_with fail
            refine ⟨⟨j + 1, j, by omega, by go_num, rfl, by omega, Lib.hid (.inr ⟨j, f, rfl, HFJ2.out, HN.out⟩), Lib.hid (below_drewN HB3.out _)⟩, by simp [intOf]; omega⟩
          · have hgl := (List.getElem?_eq_some_iff.1 hg).1
            obtain ⟨a', ha', _, g0, g1, g2⟩ := (HX.out W3 (below_mono HG.out HB3.out (Nat.le_refl _))).get hg
            cases ha'
            obtain ⟨gd, hgd⟩ : ∃ v, v = g.day := ⟨_, rfl⟩
            rw [← hgd] at g1
            have HGD := Lib.hid hgd
            have HS := Lib.hid hs
            have HGI := Lib.hid hg
            have i0 : (0 : Int) ≤ (i : Int) := by omega
            have i1 : (i : Int) < (m : Int) := by omega
            have i2 : ((i : Int) < 0) = False := by simp
            clear hgd hs hg HA hgl
            by_cases hlt2 : gd < fd
            · have HN : Hid (seenF day nm (l.take (j + 1)) = some f) := Lib.hid (by
                rw [HTK.out, HS.out]
                unfold stepF
                rw [if_pos ⟨by rw [← HFE.out.1]; exact hn, by rw [← HFE.out.2.1]; exact hd, by rw [later_some, ← HFE.out.2.1, ← HGD.out]; exact decide_eq_true hlt2⟩])
              have HFJ2 := Lib.hid HFJ.out
              clear hn HTK
              go_quiet (fail)
              go_wp2_with fail
              refine ⟨⟨j + 1, j, by omega, by go_num, rfl, by omega, Lib.hid (.inr ⟨j, f, rfl, HFJ2.out, HN.out⟩), Lib.hid (below_drewN HB3.out _)⟩, by simp [intOf]; omega⟩
            · have HN : Hid (seenF day nm (l.take (j + 1)) = some g) := Lib.hid (by
                rw [HTK.out, HS.out]
                unfold stepF
                rw [if_neg (fun h => hlt2 (by have h3 := h.2.2; rw [later_some, ← HFE.out.2.1, ← HGD.out] at h3; exact of_decide_eq_true h3))])
              clear hn HTK
              go_quiet (fail)
              go_wp2_with fail
              refine ⟨⟨j + 1, i, by omega, by go_num, rfl, by omega, Lib.hid (.inr ⟨i, g, rfl, HGI.out, HN.out⟩), Lib.hid (below_drewN HB3.out _)⟩, by simp [intOf]; omega⟩
        · have HN : Hid (seenF day nm (l.take (j + 1)) = seenF day nm (l.take j)) := Lib.hid (by
            rw [HTK.out]
            unfold stepF
            rw [← HFE.out.2.1, if_neg (fun h => hd h.2.1)])
          clear hn HTK
          go_quiet (fail)
          go_wp2_with fail
          refine ⟨⟨j + 1, ai, by omega, by go_num, rfl, by omega, Lib.hid (by rw [HN.out]; exact HA.out), Lib.hid (below_drewN HB3.out _)⟩, by simp [intOf]; omega⟩
      · have f1 : (fs.toList == nm.toList) = false := by simp [hn]
        have HN : Hid (seenF day nm (l.take (j + 1)) = seenF day nm (l.take j)) := Lib.hid (by
          rw [HTK.out]
          unfold stepF
          rw [← HFE.out.1, if_neg (fun h => hn h.1)])
        clear hn HTK
        go_quiet (fail)
        go_wp2_with fail
        refine ⟨⟨j + 1, ai, by omega, by go_num, rfl, by omega, Lib.hid (by rw [HN.out]; exact HA.out), Lib.hid (below_drewN HB3.out _)⟩, by simp [intOf]; omega⟩
    · obtain rfl : j = m := by omega
      have hA := HA.out
      rw [List.take_of_length_le (by rw [HM.out]; exact Nat.le_refl _)] at hA
      have HBZ := Lib.hid ((HR.out.block z (lt_of_heap HB1.out)).trans HB1.out)
      obtain ⟨c0, c1⟩ := duo HBZ.out
      have j1 : ¬ (j : Int) < (j : Int) := by omega
      rcases hA with ⟨rfl, hs⟩ | ⟨i, g, rfl, hg, hs⟩
      · have HS := Lib.hid hs
        clear hs HA
        go_wp2_with fail
        go_ret2
        exact ⟨by rw [HS.out]; rfl, HWR.out⟩
      · have hgl := (List.getElem?_eq_some_iff.1 hg).1
        obtain ⟨a, rfl, _, g0, g1, g2⟩ := (HX.out wr HWR.out).get hg
        obtain ⟨gv, hgv⟩ : ∃ v, v = g.val := ⟨_, rfl⟩
        rw [← hgv] at g2
        have HS := Lib.hid hs
        have HGV := Lib.hid hgv
        have i0 : (0 : Int) ≤ (i : Int) := by omega
        have i1 : (i : Int) < (j : Int) := by omega
        have i2 : ((i : Int) < 0) = False := by simp
        clear hs HA hgv hg hgl
        go_wp2_with fail
        go_ret2
        exact ⟨by rw [HS.out, HGV.out]; rfl, HWR.out⟩
set_option maxRecDepth 100000 in
set_option maxHeartbeats 8000000 in
theorem rseen_any {R : Nat → Prop} {ao : Option Addr} {l : List Fx} {cap : Nat} (day : Int) (nm : ByteArray) (w : World) (h : FxA R ao l w) (hl : l.length ≤ 200) (hR : ∀ b, R b → b < w.heap.size) :
    Calls Try.prog 37 #[.agg #[.int .i64 day, .slice ao l.length cap], .string nm] w fun e w' => e = .returned (.tuple #[.int .i64 (snV (seenF day nm l)), .bool (snB (seenF day nm l))]) ∧ Below w.heap.size w w' := by
  obtain ⟨m, hm⟩ : ∃ m, m = l.length := ⟨_, rfl⟩
  rw [← hm]
  obtain ⟨z, hz⟩ : ∃ z, z = w.heap.size := ⟨_, rfl⟩
  have GA := Lib.hid (two_made (.int .i64 day) (.slice ao m cap) 58 w)
  have HX : Hid (∀ W, Below w.heap.size w W → FxA R ao l W) := Lib.hid fun W hW => h.stay (fun _ h => h) fun b hb => hW.block b (hR b hb)
  have HM := Lib.hid hm
  have hm6 : m ≤ 200 := by omega
  have HAB : Hid (∀ b, R b → b < w.heap.size) := Lib.hid hR
  clear h hl hm hR
  go_enter Try.func37, Try.ntmps37
  go_upto_region 1 with fail
  obtain ⟨W, hW⟩ : ∃ X, w.alloc (.cells #[.int .i64 day, .slice ao m cap] 58) = X := ⟨_, rfl⟩
  obtain ⟨g1, b1, _⟩ := GA.out W hW
  rw [← hz] at b1
  rw [hW, ← hz]
  have HG := Lib.hid g1
  have HB1 := Lib.hid b1
  obtain ⟨c0, c1⟩ := duo b1
  clear hW b1 g1 GA hz
  go_upto_region 5 with fail
  go_loopw [6, 7, 8, 9] (fun fv' dv' nv' v wr => ∃ (j : Nat) (fb : Bool) (dv nv : Int), j ≤ m ∧ v = .int .i64 j ∧ fv' = .bool fb ∧ dv' = .int .i64 dv ∧ nv' = .int .i64 nv ∧ Hid ((fb = false ∧ dv = 0 ∧ nv = 0 ∧ seenF day nm (l.take j) = none) ∨ ∃ g : Fx, fb = true ∧ dv = g.day ∧ nv = g.val ∧ seenF day nm (l.take j) = some g) ∧ Hid (Below W.heap.size W wr)) (fun _ _ _ v _ => m - (intOf v).toNat)
  case atStart => exact ⟨0, false, 0, 0, by omega, rfl, rfl, rfl, rfl, Lib.hid (.inl ⟨rfl, rfl, rfl, rfl⟩), Lib.hid (Below.refl _ _)⟩
  case round =>
    obtain ⟨j, fb, dv, nv, hj, rfl, rfl, rfl, rfl, HA, HR⟩ := hrel
    have HWR : Hid (Below w.heap.size w wr) := Lib.hid (below_mono HG.out HR.out (Nat.le_refl _))
    clear c0 c1
    obtain ⟨c0, c1⟩ := duo ((HR.out.block z (lt_of_heap HB1.out)).trans HB1.out)
    by_cases hlt : j < m
    · obtain ⟨f, hf⟩ : ∃ f, l[j]? = some f := ⟨_, List.getElem?_eq_getElem (by rw [← HM.out]; exact hlt)⟩
      have HTK : Hid (seenF day nm (l.take (j + 1)) = stepF day nm (seenF day nm (l.take j)) f) := Lib.hid (by rw [List.take_add_one, hf]; exact seenF_snoc _ _ _ _)
      obtain ⟨a, rfl, hra, y0, y1, y2⟩ := (HX.out wr HWR.out).get hf
      have HFJ := Lib.hid hf
      obtain ⟨fs, hfs⟩ : ∃ v, v = f.nm := ⟨_, rfl⟩
      obtain ⟨fd, hfd⟩ : ∃ v, v = f.day := ⟨_, rfl⟩
      obtain ⟨fv, hfv⟩ : ∃ v, v = f.val := ⟨_, rfl⟩
      rw [← hfs] at y0
      rw [← hfd] at y1
      rw [← hfv] at y2
      have HFE := Lib.hid (And.intro hfs (And.intro hfd hfv))
      have j0 : (0 : Int) ≤ (j : Int) := by omega
      have j1 : (j : Int) < (m : Int) := by omega
      have HRA := Lib.hid hra
      obtain ⟨⟨r0, r1, r2⟩, p0, p1, p2⟩ := three_zero wr (.string ⟨#[]⟩) (.int .i64 0) (.int .i64 0) 80
      clear hfs hfd hfv hf hra
      go_upto_region 8 with fail
      clear r0 r1 r2 p0 p1 p2 y0 y1 y2 c0 c1
      obtain ⟨W3, hW3⟩ : ∃ X, wr.alloc (.cells #[.string fs, .int .i64 fd, .int .i64 fv] 80) = X := ⟨_, rfl⟩
      obtain ⟨k3, b3, s3⟩ := three_made _ _ _ _ wr W3 hW3
      obtain ⟨u, hu⟩ : ∃ u, u = wr.heap.size := ⟨_, rfl⟩
      rw [hW3, ← hu]
      rw [← hu] at b3
      have HB3 := Lib.hid (below_mono HR.out k3 (Nat.le_refl _))
      have HX3 := Lib.hid b3
      have HWZ := Lib.hid ((k3.block z (by have := lt_of_heap HB1.out; have := HR.out.size; omega)).trans ((HR.out.block z (lt_of_heap HB1.out)).trans HB1.out))
      obtain ⟨y0, y1, y2⟩ := trio b3
      obtain ⟨c0, c1⟩ := duo HWZ.out
      clear hW3 b3 k3 s3 hu
      by_cases hn : fs.toList = nm.toList
      · have f1 : (fs.toList == nm.toList) = true := by simp [hn]
        by_cases hd : fd ≤ day
        · cases fb with
          | false =>
            have HN : Hid (seenF day nm (l.take (j + 1)) = some f) := Lib.hid (by
              have hs : seenF day nm (l.take j) = none := by
                rcases HA.out with ⟨_, _, _, h⟩ | ⟨g, h, _⟩
                · exact h
                · cases h
              rw [HTK.out, hs]
              unfold stepF
              rw [← HFE.out.1, ← HFE.out.2.1, if_pos ⟨hn, hd, rfl⟩])
            clear hn HA HTK
            go_wp2_with fail
            refine ⟨⟨j + 1, true, fd, fv, by omega, by go_num, rfl, rfl, rfl, Lib.hid (.inr ⟨f, rfl, HFE.out.2.1, HFE.out.2.2, HN.out⟩), Lib.hid HB3.out⟩, by simp [intOf]; omega⟩
          | true =>
            obtain ⟨g, hs, hgd⟩ : ∃ g, seenF day nm (l.take j) = some g ∧ dv = g.day := by
              rcases HA.out with ⟨h, _⟩ | ⟨g, _, h, _, h2⟩
              · cases h
              · exact ⟨g, h2, h⟩
            have HS := Lib.hid hs
            have HGD := Lib.hid hgd
            clear hs hgd
            by_cases hlt2 : dv < fd
            · have HN : Hid (seenF day nm (l.take (j + 1)) = some f) := Lib.hid (by
                rw [HTK.out, HS.out]
                unfold stepF
                rw [if_pos ⟨by rw [← HFE.out.1]; exact hn, by rw [← HFE.out.2.1]; exact hd, by rw [later_some, ← HFE.out.2.1, ← HGD.out]; exact decide_eq_true hlt2⟩])
              clear hn HTK HA
              go_wp2_with fail
              refine ⟨⟨j + 1, true, fd, fv, by omega, by go_num, rfl, rfl, rfl, Lib.hid (.inr ⟨f, rfl, HFE.out.2.1, HFE.out.2.2, HN.out⟩), Lib.hid HB3.out⟩, by simp [intOf]; omega⟩
            · have HN : Hid (seenF day nm (l.take (j + 1)) = seenF day nm (l.take j)) := Lib.hid (by
                rw [HTK.out, HS.out]
                unfold stepF
                rw [if_neg (fun h => hlt2 (by have h3 := h.2.2; rw [later_some, ← HFE.out.2.1, ← HGD.out] at h3; exact of_decide_eq_true h3))])
              clear hn HTK
              go_wp2_with fail
              refine ⟨⟨j + 1, true, dv, nv, by omega, by go_num, rfl, rfl, rfl, Lib.hid (by rw [HN.out]; exact HA.out), Lib.hid HB3.out⟩, by simp [intOf]; omega⟩
        · have HN : Hid (seenF day nm (l.take (j + 1)) = seenF day nm (l.take j)) := Lib.hid (by
            rw [HTK.out]
            unfold stepF
            rw [← HFE.out.2.1, if_neg (fun h => hd h.2.1)])
          clear hn HTK
          go_wp2_with fail
          refine ⟨⟨j + 1, fb, dv, nv, by omega, by go_num, rfl, rfl, rfl, Lib.hid (by rw [HN.out]; exact HA.out), Lib.hid HB3.out⟩, by simp [intOf]; omega⟩
      · have f1 : (fs.toList == nm.toList) = false := by simp [hn]
        have HN : Hid (seenF day nm (l.take (j + 1)) = seenF day nm (l.take j)) := Lib.hid (by
          rw [HTK.out]
          unfold stepF
          rw [← HFE.out.1, if_neg (fun h => hn h.1)])
        clear hn HTK
        go_wp2_with fail
        refine ⟨⟨j + 1, fb, dv, nv, by omega, by go_num, rfl, rfl, rfl, Lib.hid (by rw [HN.out]; exact HA.out), Lib.hid HB3.out⟩, by simp [intOf]; omega⟩
    · obtain rfl : j = m := by omega
      have hA := HA.out
      rw [List.take_of_length_le (by rw [HM.out]; exact Nat.le_refl _)] at hA
      have HF : Hid (nv = snV (seenF day nm l) ∧ fb = snB (seenF day nm l)) := Lib.hid (by
        rcases hA with ⟨h1, h2, h3, h4⟩ | ⟨g, h1, h2, h3, h4⟩
        · rw [h4, h1, h3]; exact ⟨rfl, rfl⟩
        · rw [h4, h1, h3]; exact ⟨rfl, rfl⟩)
      have j1 : ¬ (j : Int) < (j : Int) := by omega
      clear hA HA
      go_wp2_with fail
      go_ret2
      exact ⟨by rw [← HF.out.1, ← HF.out.2]; rfl, HWR.out⟩
end Go.Proofs.Ytidldlhhmophjaa
namespace Go.Proofs.Ytidldlhhmophjaa
open Go.RowKit Go.PlainAid Go.Sort
set_option linter.unusedVariables false
set_option linter.unusedSimpArgs false
/-- A value. -/
structure Vl where
  kind : Int
  n : Int
  b : Bool
abbrev vlV (v : Vl) : Value := .agg #[.int .i64 v.kind, .int .i64 v.n, .bool v.b]
def numV (n : Int) : Vl := ⟨1, n, false⟩
def truV (b : Bool) : Vl := ⟨2, 0, b⟩
def brkV : Vl := ⟨3, 0, false⟩
def unkV : Vl := ⟨0, 0, false⟩
def okV (n : Int) : Vl := if -9223372036854775808 ≤ n ∧ n ≤ 9223372036854775807 then numV n else brkV
/-- What an op makes of numbers. -/
def wkV (o a b : Int) : Vl :=
  if o = 5 then okV (a + b)
  else if o = 6 then okV (a - b)
  else if o = 7 then okV (a * b)
  else if o = 8 then (if b = 0 then brkV else okV (a.fdiv b))
  else if o = 9 then numV (min a b)
  else if o = 10 then numV (max a b)
  else if o = 20 then okV (-a)
  else if o = 11 then truV (decide (a < b))
  else if o = 12 then truV (decide (a ≤ b))
  else if o = 13 then truV (decide (a = b))
  else if o = 14 then truV (decide (a ≠ b))
  else if o = 15 then truV (decide (b ≤ a))
  else truV (decide (b < a))
def isT (v : Vl) (d : Bool) : Bool := v.kind == 2 && (v.n == 0 && v.b == d)
def jnV (d : Bool) (a b : Vl) : Vl := if decide (a.kind = 3) || isT a d then a else if (decide (a.kind = 2) || decide (b.kind = 3)) || isT b d then b else unkV
def chV (a b c : Vl) : Vl := if a.kind = 2 then (if a.b = true then b else c) else a
def plV (o : Int) (a b : Vl) : Vl := if a.kind = 3 ∨ b.kind = 3 then brkV else if a.kind = 0 ∨ b.kind = 0 then unkV else if o = 19 then truV (!a.b) else wkV o a.n b.n
def evN (sn : ByteArray → Option Fx) (day o n : Int) (s : ByteArray) (vs : List Vl) : Vl :=
  if o = 1 ∨ o = 2 then numV n
  else if o = 4 then numV day
  else if o = 3 then (match sn s with | some f => numV f.val | none => unkV)
  else match vs with
    | [a] => plV o a a
    | [a, b] => if o = 17 then jnV false a b else if o = 18 then jnV true a b else plV o a b
    | [a, b, c] => chV a b c
    | _ => unkV
def Xp.ev (sn : ByteArray → Option Fx) (day : Int) : Xp → Vl
  | .mk o n s l => evN sn day o n s (evs l)
where evs : List Xp → List Vl
  | [] => []
  | x :: t => x.ev sn day :: evs t
theorem evs_map (sn : ByteArray → Option Fx) (day : Int) (l : List Xp) : Xp.ev.evs sn day l = l.map (Xp.ev sn day) := by
  induction l with
  | nil => rfl
  | cons x t ih => simp [Xp.ev.evs, ih]
theorem Xp.ev_eq (sn : ByteArray → Option Fx) (day : Int) (x : Xp) : x.ev sn day = evN sn day x.op x.n x.nm (x.args.map (Xp.ev sn day)) := by cases x; simp [Xp.ev, evs_map, Xp.op, Xp.args, Xp.n, Xp.nm]
theorem eq_vl (k n k' n' : Int) (b b' : Bool) (W : World) : (Op.equalIn 10000 73 (.agg #[.int .i64 k, .int .i64 n, .bool b]) (.agg #[.int .i64 k', .int .i64 n', .bool b'])).run Try.prog W = .ok (k == k' && (n == n' && (b == b'))) W := by
  cases h1 : (k == k') <;> cases h2 : (n == n') <;> cases h3 : (b == b') <;> simp [go_sem, h1, h2, h3]
theorem cells_val : Try.prog.cellsOf 73 = 3 := by kernel_rfl
theorem three_set (wr : World) (rb : Nat) (x0 x1 x2 : Value) (o : Array Value) (T : TypeId) (ho : ∃ y0 y1 y2, o = #[y0, y1, y2]) (hb : wr.heap[rb]? = some (.cells o T (0, 0))) : ∀ W, (((wr.setCell ⟨rb, 0, none⟩ x0).setCell ⟨rb, 1, none⟩ x1).setCell ⟨rb, 2, none⟩ x2) = W → Below rb wr W ∧ (∀ b, b ≠ rb → W.heap[b]? = wr.heap[b]?) ∧ W.heap.size = wr.heap.size ∧ W.heap[rb]? = some (.cells #[x0, x1, x2] T (0, 0)) := by
  rintro W rfl
  obtain ⟨y0, y1, y2, rfl⟩ := ho
  refine ⟨?_, fun b hb => ?_, by simp, ?_⟩
  · exact (((Below.refl rb wr).setCell (p := ⟨rb, 0, none⟩) (Nat.le_refl _) _).setCell (p := ⟨rb, 1, none⟩) (Nat.le_refl _) _).setCell (p := ⟨rb, 2, none⟩) (Nat.le_refl _) _
  · exact (Below.heap_setCell _ _ _ _ hb).trans ((Below.heap_setCell _ _ _ _ hb).trans (Below.heap_setCell _ _ _ _ hb))
  · have q0 := heap_set_at (i := 0) x0 hb
    have q1 := heap_set_at (i := 1) x1 q0
    exact heap_set_at (i := 2) x2 q1
set_option maxRecDepth 100000 in
set_option maxHeartbeats 4000000 in
theorem number_yes (n : Int) (w : World) : Calls Try.prog 89 #[.int .i64 n, .bool true] w fun e w' => e = .returned (vlV (numV n)) ∧ Below w.heap.size w w' := by
  obtain ⟨⟨r0, r1, r2⟩, p0, p1, p2⟩ := three_zero w (.int .i64 0) (.int .i64 0) (.bool false) 73
  have HF := Lib.hid (three_made (.int .i64 1) (.int .i64 n) (.bool false) 73 w)
  go_enter Try.func89, Try.ntmps89
  go_wp2_with fail
  clear r0 r1 r2 p0 p1 p2
  obtain ⟨W, hW⟩ : ∃ X, w.alloc (.cells #[.int .i64 1, .int .i64 n, .bool false] 73) = X := ⟨_, rfl⟩
  obtain ⟨k, b, s⟩ := HF.out W hW
  rw [hW]
  obtain ⟨d0, d1, d2⟩ := trio b
  exact bodyPost_ret (v := vlV (numV n)) (by simp [results, Try.results89, go_sem, d0, d1, d2, numV]) rfl ⟨rfl, k⟩
set_option maxRecDepth 100000 in
set_option maxHeartbeats 4000000 in
theorem truth_any (t : Bool) (w : World) : Calls Try.prog 92 #[.bool t] w fun e w' => e = .returned (vlV (truV t)) ∧ Below w.heap.size w w' := by
  obtain ⟨⟨r0, r1, r2⟩, p0, p1, p2⟩ := three_zero w (.int .i64 0) (.int .i64 0) (.bool false) 73
  have HF := Lib.hid (three_made (.int .i64 2) (.int .i64 0) (.bool t) 73 w)
  go_enter Try.func92, Try.ntmps92
  go_wp2_with fail
  clear r0 r1 r2 p0 p1 p2
  obtain ⟨W, hW⟩ : ∃ X, w.alloc (.cells #[.int .i64 2, .int .i64 0, .bool t] 73) = X := ⟨_, rfl⟩
  obtain ⟨k, b, s⟩ := HF.out W hW
  rw [hW]
  obtain ⟨d0, d1, d2⟩ := trio b
  exact bodyPost_ret (v := vlV (truV t)) (by simp [results, Try.results92, go_sem, d0, d1, d2, truV]) rfl ⟨rfl, k⟩
theorem four_boxed (v0 v1 v2 v3 : Value) (T : TypeId) (w : World) : ∀ W, w.alloc (.cells #[v0, v1, v2, v3] T) = W → Below w.heap.size w W ∧ W.heap[w.heap.size]? = some (.cells #[v0, v1, v2, v3] T (0, 0)) ∧ W.heap.size = w.heap.size + 1 := by
  rintro W rfl
  exact ⟨(Below.refl w.heap.size w).alloc (Nat.le_refl _) _, heap_alloc_new w _, by simp⟩
/-- An expression, an environment and a value, each in a box. -/
theorem entry_made (x0 x1 x2 x3 e0 e1 : Value) (w : World) : ∀ W, ((w.alloc (.cells #[x0, x1, x2, x3] 34)).alloc (.cells #[e0, e1] 63)).alloc (.cells #[.int .i64 0, .int .i64 0, .bool false] 73) = W → Below w.heap.size w W ∧ W.heap[w.heap.size]? = some (.cells #[x0, x1, x2, x3] 34 (0, 0)) ∧ W.heap[w.heap.size + 1]? = some (.cells #[e0, e1] 63 (0, 0)) ∧ W.heap[w.heap.size + 1 + 1]? = some (.cells #[.int .i64 0, .int .i64 0, .bool false] 73 (0, 0)) := by
  rintro W rfl
  obtain ⟨k1, b1, s1⟩ := four_boxed x0 x1 x2 x3 34 w _ rfl
  obtain ⟨k2, b2, s2⟩ := two_made e0 e1 63 (w.alloc (.cells #[x0, x1, x2, x3] 34)) _ rfl
  obtain ⟨k3, b3, s3⟩ := three_made (.int .i64 0) (.int .i64 0) (.bool false) 73 ((w.alloc (.cells #[x0, x1, x2, x3] 34)).alloc (.cells #[e0, e1] 63)) _ rfl
  refine ⟨below_mono (below_mono k1 k2 (Nat.le_refl _)) k3 (Nat.le_refl _), (k3.block _ (by omega)).trans ((k2.block _ (by omega)).trans b1), (k3.block _ (by omega)).trans ?_, ?_⟩
  · rw [← s1]; exact b2
  · rw [show w.heap.size + 1 + 1 = ((w.alloc (.cells #[x0, x1, x2, x3] 34)).alloc (.cells #[e0, e1] 63)).heap.size from by omega]; exact b3
/-- The three boxes of a walk. -/
structure EvB (z : Nat) (xv : Array Value) (ev : Array Value) (w W : World) : Prop where
  bel : Below w.heap.size w W
  ex : W.heap[z]? = some (.cells xv 34 (0, 0))
  en : W.heap[z + 1]? = some (.cells ev 63 (0, 0))
  va : W.heap[z + 1 + 1]? = some (.cells #[.int .i64 0, .int .i64 0, .bool false] 73 (0, 0))
  le : w.heap.size ≤ z
theorem EvB.next {z : Nat} {xv ev : Array Value} {w W V : World} (h : EvB z xv ev w W) (k : Below W.heap.size W V) : EvB z xv ev w V :=
  ⟨below_mono h.bel k (Nat.le_refl _), (k.block _ (lt_of_heap h.ex)).trans h.ex, (k.block _ (lt_of_heap h.en)).trans h.en, (k.block _ (lt_of_heap h.va)).trans h.va, h.le⟩
set_option maxRecDepth 100000 in
set_option maxHeartbeats 8000000 in
theorem joined_any {xo xn : Int} {xs : ByteArray} {a : Addr} {k : Nat} {day : Int} {fa : Option Addr} {fm fc : Nat} (d : Bool) (v0 v1 : Vl) (w : World) {yo yn : Int} {ys : ByteArray} {co : Option Addr} {cm ck : Nat} {zo zn : Int} {zs : ByteArray} {co1 : Option Addr} {dm ck1 : Nat} (ha : a.block < w.heap.size) (hk : 2 ≤ k)
    (hf0 : FourX w a (.int .i64 yo) (.int .i64 yn) (.string ys) (.slice co cm ck)) (hf1 : FourX w ⟨a.block, a.off + 4, none⟩ (.int .i64 zo) (.int .i64 zn) (.string zs) (.slice co1 dm ck1))
    (h0 : ∀ V, Below w.heap.size w V → Calls Try.prog 66 #[.agg #[.int .i64 yo, .int .i64 yn, .string ys, .slice co cm ck], .agg #[.int .i64 day, .slice fa fm fc]] V fun e w' => e = .returned (vlV v0) ∧ Below V.heap.size V w')
    (h1 : ∀ V, Below w.heap.size w V → Calls Try.prog 66 #[.agg #[.int .i64 zo, .int .i64 zn, .string zs, .slice co1 dm ck1], .agg #[.int .i64 day, .slice fa fm fc]] V fun e w' => e = .returned (vlV v1) ∧ Below V.heap.size V w') :
    Calls Try.prog 90 #[.agg #[.int .i64 xo, .int .i64 xn, .string xs, .slice (some a) 2 k], .agg #[.int .i64 day, .slice fa fm fc], .bool d] w fun e w' => e = .returned (vlV (jnV d v0 v1)) ∧ Below w.heap.size w w' := by
  obtain ⟨bo, hbo⟩ : ∃ b, b = some a := ⟨_, rfl⟩
  obtain ⟨m, hm⟩ : ∃ m, m = 2 := ⟨_, rfl⟩
  have GA := Lib.hid (entry_made (.int .i64 xo) (.int .i64 xn) (.string xs) (.slice (some a) 2 k) (.int .i64 day) (.slice fa fm fc) w)
  have C0 := Lib.hid h0
  have C1 := Lib.hid h1
  have HC0 : Hid (∀ V, Below w.heap.size w V → FourX V a (.int .i64 yo) (.int .i64 yn) (.string ys) (.slice co cm ck)) := Lib.hid fun V hV => hf0.stay (hV.block _ ha)
  have HC1 : Hid (∀ V, Below w.heap.size w V → FourX V ⟨a.block, a.off + 4, none⟩ (.int .i64 zo) (.int .i64 zn) (.string zs) (.slice co1 dm ck1)) := Lib.hid fun V hV => hf1.stay (hV.block _ ha)
  obtain ⟨r0, hr0⟩ : ∃ r, r = v0.kind := ⟨_, rfl⟩
  obtain ⟨n0, hn0⟩ : ∃ r, r = v0.n := ⟨_, rfl⟩
  obtain ⟨t0, ht0⟩ : ∃ r, r = v0.b := ⟨_, rfl⟩
  obtain ⟨r1, hr1⟩ : ∃ r, r = v1.kind := ⟨_, rfl⟩
  obtain ⟨n1, hn1⟩ : ∃ r, r = v1.n := ⟨_, rfl⟩
  obtain ⟨t1, ht1⟩ : ∃ r, r = v1.b := ⟨_, rfl⟩
  have HV0 : Hid (v0 = ⟨r0, n0, t0⟩) := Lib.hid (by rw [hr0, hn0, ht0])
  have HV1 : Hid (v1 = ⟨r1, n1, t1⟩) := Lib.hid (by rw [hr1, hn1, ht1])
  rw [show vlV v0 = .agg #[.int .i64 r0, .int .i64 n0, .bool t0] from by rw [hr0, hn0, ht0]] at C0
  rw [show vlV v1 = .agg #[.int .i64 r1, .int .i64 n1, .bool t1] from by rw [hr1, hn1, ht1]] at C1
  clear h0 h1 hf0 hf1 hr0 hn0 ht0 hr1 hn1 ht1 hbo hm ha
  go_enter Try.func90, Try.ntmps90
  go_upto_region 1 with fail
  obtain ⟨W, hW⟩ : ∃ X, ((w.alloc (.cells #[.int .i64 xo, .int .i64 xn, .string xs, .slice (some a) 2 k] 34)).alloc (.cells #[.int .i64 day, .slice fa fm fc] 63)).alloc (.cells #[.int .i64 0, .int .i64 0, .bool false] 73) = X := ⟨_, rfl⟩
  obtain ⟨g1, b1, b2, b3⟩ := GA.out W hW
  obtain ⟨z, hz⟩ : ∃ z, z = w.heap.size := ⟨_, rfl⟩
  rw [hW, ← hz]
  rw [← hz] at b1 b2 b3
  have HE : Hid (EvB z #[.int .i64 xo, .int .i64 xn, .string xs, .slice (some a) 2 k] #[.int .i64 day, .slice fa fm fc] w W) := Lib.hid ⟨g1, b1, b2, b3, by omega⟩
  clear hW b1 b2 b3 g1 GA hz
  have c3 : W.cell? ⟨z, 3, none⟩ = some (.slice (some a) 2 k) := cell_blk HE.out.ex 3
  obtain ⟨e0, e1⟩ := duo HE.out.en
  obtain ⟨y0, y1, y2, y3⟩ := HC0.out W HE.out.bel
  go_cut [7] (fun p wx => ∃ u : Nat, p = .pointer (some ⟨u, 0, none⟩) ∧ Hid (Below W.heap.size W wx ∧ W.heap.size ≤ u ∧ wx.heap[u]? = some (.cells #[.int .i64 r0, .int .i64 n0, .bool t0] 73 (0, 0))))
  case first =>
    have HBA : Hid (Below W.heap.size W (W.alloc (.cells #[.int .i64 0, .int .i64 0, .bool false] 73)).drew ∧ (W.alloc (.cells #[.int .i64 0, .int .i64 0, .bool false] 73)).drew.heap[W.heap.size]? = some (.cells #[.int .i64 0, .int .i64 0, .bool false] 73 (0, 0))) := Lib.hid ⟨((Below.refl _ _).alloc (Nat.le_refl _) _).drew, heap_alloc_new _ _⟩
    have HBD : Hid (Below W.heap.size W W.drew) := Lib.hid (Below.refl _ _).drew
    have HSF : Hid (∀ V, Below W.heap.size W V → V.cell? ⟨z, 3, none⟩ = some (.slice (some a) 2 k) ∧ V.cell? ⟨z + 1, 0, none⟩ = some (.int .i64 day) ∧ V.cell? ⟨z + 1, 1, none⟩ = some (.slice fa fm fc) ∧ V.cell? a = some (.int .i64 yo) ∧ V.cell? ⟨a.block, a.off + 1, none⟩ = some (.int .i64 yn) ∧ V.cell? ⟨a.block, a.off + 2, none⟩ = some (.string ys) ∧ V.cell? ⟨a.block, a.off + 3, none⟩ = some (.slice co cm ck)) := Lib.hid fun V hV => ⟨cell_blk (HE.out.next hV).ex 3, (duo (HE.out.next hV).en).1, (duo (HE.out.next hV).en).2, (HC0.out V (HE.out.next hV).bel).1, (HC0.out V (HE.out.next hV).bel).2.1, (HC0.out V (HE.out.next hV).bel).2.2.1, (HC0.out V (HE.out.next hV).bel).2.2.2⟩
    go_region_held3 (fun w' => w'.cell? ⟨z, 3, none⟩ = some (.slice (some a) 2 k) ∧ w'.cell? ⟨z + 1, 0, none⟩ = some (.int .i64 day) ∧ w'.cell? ⟨z + 1, 1, none⟩ = some (.slice fa fm fc) ∧ w'.cell? a = some (.int .i64 yo) ∧ w'.cell? ⟨a.block, a.off + 1, none⟩ = some (.int .i64 yn) ∧ w'.cell? ⟨a.block, a.off + 2, none⟩ = some (.string ys) ∧ w'.cell? ⟨a.block, a.off + 3, none⟩ = some (.slice co cm ck))
      (first | exact HSF.out _ HB4.out | exact HSF.out _ (below_mono HB4.out ((Below.refl _ _).alloc (Nat.le_refl _) _) (Nat.le_refl _)) | exact HSF.out _ (((HB4.out.setCell (p := ⟨W.heap.size, 0, none⟩) (Nat.le_refl _) _).setCell (p := ⟨W.heap.size, 1, none⟩) (Nat.le_refl _) _).setCell (p := ⟨W.heap.size, 2, none⟩) (Nat.le_refl _) _) | (go_keep; done))
      (first
        | (go_at_call 66; (with_reducible refine (C0.out _ (HE.out.next HBD.out).bel).mono ?_); rintro e w4 ⟨rfl, hb⟩; have HB4 := Lib.hid (HBD.out.trans hb); clear hb; obtain ⟨⟨n0', n1', n2'⟩, p0, p1, p2⟩ := three_zero w4 (.int .i64 0) (.int .i64 0) (.bool false) 73)
        | (go_at_call 66; (with_reducible refine (C0.out _ (HE.out.next HBA.out.1).bel).mono ?_); rintro e w4 ⟨rfl, hb⟩; have HB4 := Lib.hid (HBA.out.1.trans (hb.mono (by simp))); have HX4 := Lib.hid ((hb.block _ (by simp)).trans HBA.out.2); obtain ⟨n0', n1', n2'⟩ := trio HX4.out; have p0 : w4.frozen? ⟨W.heap.size, 0, none⟩ = false := free_blk HX4.out 0; have p1 : w4.frozen? ⟨W.heap.size, 1, none⟩ = false := free_blk HX4.out 1; have p2 : w4.frozen? ⟨W.heap.size, 2, none⟩ = false := free_blk HX4.out 2; clear hb))
    · go_wp2_with fail
      go_meet
      exact ⟨w4.heap.size, rfl, Lib.hid ⟨below_mono HB4.out ((Below.refl _ _).alloc (Nat.le_refl _) _) (Nat.le_refl _), HB4.out.size, heap_alloc_new _ _⟩⟩
    · go_wp2_with fail
      go_meet
      obtain ⟨k9, _, _, x9⟩ := three_set w4 W.heap.size (.int .i64 r0) (.int .i64 n0) (.bool t0) _ _ ⟨_, _, _, rfl⟩ HX4.out _ rfl
      exact ⟨W.heap.size, rfl, Lib.hid ⟨HB4.out.trans k9, Nat.le_refl _, x9⟩⟩
  case rest =>
    obtain ⟨u, rfl, HU⟩ := hcut
    clear c3 e0 e1 y0 y1 y2 y3
    have HE2 := Lib.hid (HE.out.next HU.out.1)
    have HXU := Lib.hid HU.out.2.2
    obtain ⟨k0, k1, k2⟩ := trio HXU.out
    by_cases h3 : r0 = 3
    · subst h3
      have HR : Hid (jnV d v0 v1 = ⟨3, n0, t0⟩) := Lib.hid (by rw [HV0.out]; rfl)
      go_upto_region 2 with fail
      go_quiet (fail)
      go_upto_region 3 with fail
      refine wp_letter (fun V => Below wc.heap.size wc V) (below_drewN (Below.refl _ _) _) ?_
      rintro W8 hw8
      have HE8 := Lib.hid (HE2.out.next hw8)
      have hx8 := (hw8.block u (lt_of_heap HXU.out)).trans HXU.out
      clear hw8 k0 k1 k2
      obtain ⟨k0, k1, k2⟩ := trio hx8
      clear hx8
      obtain ⟨q0', q1', q2'⟩ := trio HE8.out.va
      have p0 : W8.frozen? ⟨z + 1 + 1, 0, none⟩ = false := free_blk HE8.out.va 0
      have p1 : W8.frozen? ⟨z + 1 + 1, 1, none⟩ = false := free_blk HE8.out.va 1
      have p2 : W8.frozen? ⟨z + 1 + 1, 2, none⟩ = false := free_blk HE8.out.va 2
      go_wp2_with fail
      have HS9 := Lib.hid (three_set W8 (z + 1 + 1) (.int .i64 3) (.int .i64 n0) (.bool t0) _ _ ⟨_, _, _, rfl⟩ HE8.out.va)
      clear q0' q1' q2' p0 p1 p2
      obtain ⟨W9, hW9⟩ : ∃ X, (((W8.setCell ⟨z + 1 + 1, 0, none⟩ (.int .i64 3)).setCell ⟨z + 1 + 1, 1, none⟩ (.int .i64 n0)).setCell ⟨z + 1 + 1, 2, none⟩ (.bool t0)) = X := ⟨_, rfl⟩
      obtain ⟨k9, _, _, x9⟩ := HS9.out W9 hW9
      rw [hW9]
      obtain ⟨d0, d1, d2⟩ := trio x9
      exact bodyPost_ret (v := .agg #[.int .i64 3, .int .i64 n0, .bool t0]) (by simp [results, Try.results90, go_sem, d0, d1, d2]) rfl ⟨by rw [HR.out], HE8.out.bel.trans (k9.mono (by have := HE8.out.le; omega))⟩
    · have f3 : (r0 == 3) = false := by simp [h3]
      obtain ⟨q0, hq0⟩ : ∃ q, q = isT v0 d := ⟨_, rfl⟩
      have HQ : ∀ V, (Op.equalIn 10000 73 (.agg #[.int .i64 r0, .int .i64 n0, .bool t0]) (.agg #[.int .i64 2, .int .i64 0, .bool d])).run Try.prog V = .ok q0 V := fun V => by
        rw [hq0, HV0.out]; exact eq_vl r0 n0 2 0 t0 d V
      have HQ0 := Lib.hid hq0
      clear hq0
      have QF := Lib.hid (fun V : World => truth_any d V)
      cases q0 with
      | true =>
        have HR : Hid (jnV d v0 v1 = ⟨r0, n0, t0⟩) := Lib.hid (by unfold jnV; rw [← HQ0.out, Bool.or_true, if_pos rfl]; exact HV0.out)
        go_upto_region 2 with fail
        have CQ : Hid (∀ dd os, Calls Try.prog 92 #[.bool d] (grow (redrawn wc dd) os) fun e w'' => e = .returned (.agg #[.int .i64 2, .int .i64 0, .bool d]) ∧ ∃ q : Regrown, w'' = grow (redrawn wc q.d) q.os) := Lib.hid fun dd os => Calls.regrown_of (QF.out _)
        have cg0 : ∀ dd os, (grow (redrawn wc dd) os).cell? ⟨u, 0, none⟩ = some (.int .i64 r0) := fun dd os => (trio (((below_regrown wc dd os).block _ (lt_of_heap HXU.out)).trans HXU.out)).1
        have cg1 : ∀ dd os, (grow (redrawn wc dd) os).cell? ⟨u, 1, none⟩ = some (.int .i64 n0) := fun dd os => (trio (((below_regrown wc dd os).block _ (lt_of_heap HXU.out)).trans HXU.out)).2.1
        have cg2 : ∀ dd os, (grow (redrawn wc dd) os).cell? ⟨u, 2, none⟩ = some (.bool t0) := fun dd os => (trio (((below_regrown wc dd os).block _ (lt_of_heap HXU.out)).trans HXU.out)).2.2
        refine wp_region_quiet_below (by kernel_rfl) (by kernel_rfl) ?_
        repeat (first | go_big_quiet_step (with_reducible exact CQ.out _ _) | quiet_step (with_reducible exact CQ.out _ _))
        refine wpQuiet_nil ?_
        rintro _ ⟨⟨dq, osq⟩, hw''⟩
        subst hw''
        have HB4 := Lib.hid (below_regrown wc dq osq)
        clear cg0 cg1 cg2
        go_upto_region 3 with fail
        refine wp_letter (fun V => Below wc.heap.size wc V) HB4.out ?_
        rintro W8 hw8
        have HE8 := Lib.hid (HE2.out.next hw8)
        have HY0 := Lib.hid ((hw8.block _ (lt_of_heap HXU.out)).trans HXU.out)
        clear hw8
        clear k0 k1 k2
        obtain ⟨k0, k1, k2⟩ := trio HY0.out
        obtain ⟨q0', q1', q2'⟩ := trio HE8.out.va
        have p0 : W8.frozen? ⟨z + 1 + 1, 0, none⟩ = false := free_blk HE8.out.va 0
        have p1 : W8.frozen? ⟨z + 1 + 1, 1, none⟩ = false := free_blk HE8.out.va 1
        have p2 : W8.frozen? ⟨z + 1 + 1, 2, none⟩ = false := free_blk HE8.out.va 2
        go_wp2_with fail
        have HS9 := Lib.hid (three_set W8 (z + 1 + 1) (.int .i64 r0) (.int .i64 n0) (.bool t0) _ _ ⟨_, _, _, rfl⟩ HE8.out.va)
        clear q0' q1' q2' p0 p1 p2
        obtain ⟨W9, hW9⟩ : ∃ X, (((W8.setCell ⟨z + 1 + 1, 0, none⟩ (.int .i64 r0)).setCell ⟨z + 1 + 1, 1, none⟩ (.int .i64 n0)).setCell ⟨z + 1 + 1, 2, none⟩ (.bool t0)) = X := ⟨_, rfl⟩
        obtain ⟨k9, _, _, x9⟩ := HS9.out W9 hW9
        rw [hW9]
        obtain ⟨d0, d1, d2⟩ := trio x9
        exact bodyPost_ret (v := .agg #[.int .i64 r0, .int .i64 n0, .bool t0]) (by simp [results, Try.results90, go_sem, d0, d1, d2]) rfl ⟨by rw [HR.out], HE8.out.bel.trans (k9.mono (by have := HE8.out.le; omega))⟩
      | false =>
        have HR : Hid (jnV d v0 v1 = if (decide (v1.kind = 3) || decide (v0.kind = 2)) || isT v1 d then v1 else unkV) := Lib.hid (by
          unfold jnV
          rw [← HQ0.out, show decide (v0.kind = 3) = false from by rw [HV0.out]; simp [h3]]
          rw [Bool.or_comm (decide (v1.kind = 3))]
          rfl)
        go_upto_region 2 with fail
        have CQ : Hid (∀ dd os, Calls Try.prog 92 #[.bool d] (grow (redrawn wc dd) os) fun e w'' => e = .returned (.agg #[.int .i64 2, .int .i64 0, .bool d]) ∧ ∃ q : Regrown, w'' = grow (redrawn wc q.d) q.os) := Lib.hid fun dd os => Calls.regrown_of (QF.out _)
        have cg0 : ∀ dd os, (grow (redrawn wc dd) os).cell? ⟨u, 0, none⟩ = some (.int .i64 r0) := fun dd os => (trio (((below_regrown wc dd os).block _ (lt_of_heap HXU.out)).trans HXU.out)).1
        have cg1 : ∀ dd os, (grow (redrawn wc dd) os).cell? ⟨u, 1, none⟩ = some (.int .i64 n0) := fun dd os => (trio (((below_regrown wc dd os).block _ (lt_of_heap HXU.out)).trans HXU.out)).2.1
        have cg2 : ∀ dd os, (grow (redrawn wc dd) os).cell? ⟨u, 2, none⟩ = some (.bool t0) := fun dd os => (trio (((below_regrown wc dd os).block _ (lt_of_heap HXU.out)).trans HXU.out)).2.2
        refine wp_region_quiet_below (by kernel_rfl) (by kernel_rfl) ?_
        repeat (first | go_big_quiet_step (with_reducible exact CQ.out _ _) | quiet_step (with_reducible exact CQ.out _ _))
        refine wpQuiet_nil ?_
        rintro _ ⟨⟨dq, osq⟩, hw''⟩
        subst hw''
        have HB4 := Lib.hid (below_regrown wc dq osq)
        clear cg0 cg1 cg2
        go_upto_region 4 with fail
        refine wp_letter (fun V => Below wc.heap.size wc V) HB4.out ?_
        rintro W8 hw8
        have HE8 := Lib.hid (HE2.out.next hw8)
        have HY0 := Lib.hid ((hw8.block _ (lt_of_heap HXU.out)).trans HXU.out)
        clear hw8
        clear k0 k1 k2
        obtain ⟨wo, hwo⟩ : ∃ wo : World, wo = wc := ⟨_, rfl⟩
        have c3 : W8.cell? ⟨z, 3, none⟩ = some (.slice (some a) 2 k) := cell_blk HE8.out.ex 3
        obtain ⟨e0, e1⟩ := duo HE8.out.en
        obtain ⟨y0, y1, y2, y3⟩ := HC1.out W8 HE8.out.bel
        go_cut [8] (fun p wx => ∃ u : Nat, p = .pointer (some ⟨u, 0, none⟩) ∧ Hid (Below W8.heap.size W8 wx ∧ W8.heap.size ≤ u ∧ wx.heap[u]? = some (.cells #[.int .i64 r1, .int .i64 n1, .bool t1] 73 (0, 0))))
        case first =>
          have HBA : Hid (Below W8.heap.size W8 (W8.alloc (.cells #[.int .i64 0, .int .i64 0, .bool false] 73)).drew ∧ (W8.alloc (.cells #[.int .i64 0, .int .i64 0, .bool false] 73)).drew.heap[W8.heap.size]? = some (.cells #[.int .i64 0, .int .i64 0, .bool false] 73 (0, 0))) := Lib.hid ⟨((Below.refl _ _).alloc (Nat.le_refl _) _).drew, heap_alloc_new _ _⟩
          have HBD : Hid (Below W8.heap.size W8 W8.drew) := Lib.hid (Below.refl _ _).drew
          have HSF : Hid (∀ V, Below W8.heap.size W8 V → V.cell? ⟨z, 3, none⟩ = some (.slice (some a) 2 k) ∧ V.cell? ⟨z + 1, 0, none⟩ = some (.int .i64 day) ∧ V.cell? ⟨z + 1, 1, none⟩ = some (.slice fa fm fc) ∧ V.cell? ⟨a.block, a.off + 4, none⟩ = some (.int .i64 zo) ∧ V.cell? ⟨a.block, a.off + 4 + 1, none⟩ = some (.int .i64 zn) ∧ V.cell? ⟨a.block, a.off + 4 + 2, none⟩ = some (.string zs) ∧ V.cell? ⟨a.block, a.off + 4 + 3, none⟩ = some (.slice co1 dm ck1)) := Lib.hid fun V hV => ⟨cell_blk (HE8.out.next hV).ex 3, (duo (HE8.out.next hV).en).1, (duo (HE8.out.next hV).en).2, (HC1.out V (HE8.out.next hV).bel).1, (HC1.out V (HE8.out.next hV).bel).2.1, (HC1.out V (HE8.out.next hV).bel).2.2.1, (HC1.out V (HE8.out.next hV).bel).2.2.2⟩
          go_region_held3 (fun w' => w'.cell? ⟨z, 3, none⟩ = some (.slice (some a) 2 k) ∧ w'.cell? ⟨z + 1, 0, none⟩ = some (.int .i64 day) ∧ w'.cell? ⟨z + 1, 1, none⟩ = some (.slice fa fm fc) ∧ w'.cell? ⟨a.block, a.off + 4, none⟩ = some (.int .i64 zo) ∧ w'.cell? ⟨a.block, a.off + 4 + 1, none⟩ = some (.int .i64 zn) ∧ w'.cell? ⟨a.block, a.off + 4 + 2, none⟩ = some (.string zs) ∧ w'.cell? ⟨a.block, a.off + 4 + 3, none⟩ = some (.slice co1 dm ck1))
            (first | exact HSF.out _ HB4.out | exact HSF.out _ (below_mono HB4.out ((Below.refl _ _).alloc (Nat.le_refl _) _) (Nat.le_refl _)) | exact HSF.out _ (((HB4.out.setCell (p := ⟨W8.heap.size, 0, none⟩) (Nat.le_refl _) _).setCell (p := ⟨W8.heap.size, 1, none⟩) (Nat.le_refl _) _).setCell (p := ⟨W8.heap.size, 2, none⟩) (Nat.le_refl _) _) | (go_keep; done))
            (first
              | (go_at_call 66; (with_reducible refine (C1.out _ (HE8.out.next HBD.out).bel).mono ?_); rintro e w4 ⟨rfl, hb⟩; have HB4 := Lib.hid (HBD.out.trans hb); clear hb; obtain ⟨⟨n0', n1', n2'⟩, p0, p1, p2⟩ := three_zero w4 (.int .i64 0) (.int .i64 0) (.bool false) 73)
              | (go_at_call 66; (with_reducible refine (C1.out _ (HE8.out.next HBA.out.1).bel).mono ?_); rintro e w4 ⟨rfl, hb⟩; have HB4 := Lib.hid (HBA.out.1.trans (hb.mono (by simp))); have HX4 := Lib.hid ((hb.block _ (by simp)).trans HBA.out.2); obtain ⟨n0', n1', n2'⟩ := trio HX4.out; have p0 : w4.frozen? ⟨W8.heap.size, 0, none⟩ = false := free_blk HX4.out 0; have p1 : w4.frozen? ⟨W8.heap.size, 1, none⟩ = false := free_blk HX4.out 1; have p2 : w4.frozen? ⟨W8.heap.size, 2, none⟩ = false := free_blk HX4.out 2; clear hb))
          · go_wp2_with fail
            go_meet
            exact ⟨w4.heap.size, rfl, Lib.hid ⟨below_mono HB4.out ((Below.refl _ _).alloc (Nat.le_refl _) _) (Nat.le_refl _), HB4.out.size, heap_alloc_new _ _⟩⟩
          · go_wp2_with fail
            go_meet
            obtain ⟨k9, _, _, x9⟩ := three_set w4 W8.heap.size (.int .i64 r1) (.int .i64 n1) (.bool t1) _ _ ⟨_, _, _, rfl⟩ HX4.out _ rfl
            exact ⟨W8.heap.size, rfl, Lib.hid ⟨HB4.out.trans k9, Nat.le_refl _, x9⟩⟩
        case rest =>
          obtain ⟨u2, rfl, HU2⟩ := hcut
          clear c3 e0 e1 y0 y1 y2 y3
          have HE3 := Lib.hid (HE8.out.next HU2.out.1)
          have HXU8 := Lib.hid ((HU2.out.1.block u (lt_of_heap HY0.out)).trans HY0.out)
          have HXU2 := Lib.hid HU2.out.2.2
          obtain ⟨k0, k1, k2⟩ := trio HXU8.out
          obtain ⟨l0, l1, l2⟩ := trio HXU2.out
          by_cases g2 : r0 = 2
          · subst g2
            have HR2 : Hid (jnV d v0 v1 = ⟨r1, n1, t1⟩) := Lib.hid (by rw [HR.out, HV0.out]; simp; exact HV1.out)
            go_upto_region 5 with fail
            go_quiet (fail)
            go_upto_region 6 with fail
            refine wp_letter (fun V => Below wc.heap.size wc V) (below_drewN (Below.refl _ _) _) ?_
            rintro W9 hw8
            have HE8 := Lib.hid (HE3.out.next hw8)
            have HY0 := Lib.hid ((hw8.block _ (lt_of_heap HXU2.out)).trans HXU2.out)
            clear hw8
            clear k0 k1 k2 l0 l1 l2
            obtain ⟨k0, k1, k2⟩ := trio HY0.out
            obtain ⟨q0', q1', q2'⟩ := trio HE8.out.va
            have p0 : W9.frozen? ⟨z + 1 + 1, 0, none⟩ = false := free_blk HE8.out.va 0
            have p1 : W9.frozen? ⟨z + 1 + 1, 1, none⟩ = false := free_blk HE8.out.va 1
            have p2 : W9.frozen? ⟨z + 1 + 1, 2, none⟩ = false := free_blk HE8.out.va 2
            go_wp2_with fail
            have HS9 := Lib.hid (three_set W9 (z + 1 + 1) (.int .i64 r1) (.int .i64 n1) (.bool t1) _ _ ⟨_, _, _, rfl⟩ HE8.out.va)
            clear q0' q1' q2' p0 p1 p2
            obtain ⟨W10, hW9⟩ : ∃ X, (((W9.setCell ⟨z + 1 + 1, 0, none⟩ (.int .i64 r1)).setCell ⟨z + 1 + 1, 1, none⟩ (.int .i64 n1)).setCell ⟨z + 1 + 1, 2, none⟩ (.bool t1)) = X := ⟨_, rfl⟩
            obtain ⟨k9, _, _, x9⟩ := HS9.out W10 hW9
            rw [hW9]
            obtain ⟨d0, d1, d2⟩ := trio x9
            exact bodyPost_ret (v := .agg #[.int .i64 r1, .int .i64 n1, .bool t1]) (by simp [results, Try.results90, go_sem, d0, d1, d2]) rfl ⟨by rw [HR2.out], HE8.out.bel.trans (k9.mono (by have := HE8.out.le; omega))⟩
          · have f2 : (r0 == 2) = false := by simp [g2]
            by_cases g3 : r1 = 3
            · subst g3
              have HR2 : Hid (jnV d v0 v1 = ⟨3, n1, t1⟩) := Lib.hid (by rw [HR.out, HV1.out]; simp)
              go_upto_region 5 with fail
              go_quiet (fail)
              go_upto_region 6 with fail
              refine wp_letter (fun V => Below wc.heap.size wc V) (below_drewN (Below.refl _ _) _) ?_
              rintro W9 hw8
              have HE8 := Lib.hid (HE3.out.next hw8)
              have HY0 := Lib.hid ((hw8.block _ (lt_of_heap HXU2.out)).trans HXU2.out)
              clear hw8
              clear k0 k1 k2 l0 l1 l2
              obtain ⟨k0, k1, k2⟩ := trio HY0.out
              obtain ⟨q0', q1', q2'⟩ := trio HE8.out.va
              have p0 : W9.frozen? ⟨z + 1 + 1, 0, none⟩ = false := free_blk HE8.out.va 0
              have p1 : W9.frozen? ⟨z + 1 + 1, 1, none⟩ = false := free_blk HE8.out.va 1
              have p2 : W9.frozen? ⟨z + 1 + 1, 2, none⟩ = false := free_blk HE8.out.va 2
              go_wp2_with fail
              have HS9 := Lib.hid (three_set W9 (z + 1 + 1) (.int .i64 3) (.int .i64 n1) (.bool t1) _ _ ⟨_, _, _, rfl⟩ HE8.out.va)
              clear q0' q1' q2' p0 p1 p2
              obtain ⟨W10, hW9⟩ : ∃ X, (((W9.setCell ⟨z + 1 + 1, 0, none⟩ (.int .i64 3)).setCell ⟨z + 1 + 1, 1, none⟩ (.int .i64 n1)).setCell ⟨z + 1 + 1, 2, none⟩ (.bool t1)) = X := ⟨_, rfl⟩
              obtain ⟨k9, _, _, x9⟩ := HS9.out W10 hW9
              rw [hW9]
              obtain ⟨d0, d1, d2⟩ := trio x9
              exact bodyPost_ret (v := .agg #[.int .i64 3, .int .i64 n1, .bool t1]) (by simp [results, Try.results90, go_sem, d0, d1, d2]) rfl ⟨by rw [HR2.out], HE8.out.bel.trans (k9.mono (by have := HE8.out.le; omega))⟩
            · have f3' : (r1 == 3) = false := by simp [g3]
              obtain ⟨q1, hq1⟩ : ∃ q, q = isT v1 d := ⟨_, rfl⟩
              have HQ' : ∀ V, (Op.equalIn 10000 73 (.agg #[.int .i64 r1, .int .i64 n1, .bool t1]) (.agg #[.int .i64 2, .int .i64 0, .bool d])).run Try.prog V = .ok q1 V := fun V => by
                rw [hq1, HV1.out]; exact eq_vl r1 n1 2 0 t1 d V
              have HR2 : Hid (jnV d v0 v1 = if q1 = true then v1 else unkV) := Lib.hid (by rw [HR.out, hq1, show decide (v1.kind = 3) = false from by rw [HV1.out]; simp [g3], show decide (v0.kind = 2) = false from by rw [HV0.out]; simp [g2]]; rfl)
              clear hq1
              go_upto_region 5 with fail
              cases q1 with
              | true =>
                have HR3 : Hid (jnV d v0 v1 = ⟨r1, n1, t1⟩) := Lib.hid (by rw [HR2.out, if_pos rfl]; exact HV1.out)
                have CQ : Hid (∀ dd os, Calls Try.prog 92 #[.bool d] (grow (redrawn wc dd) os) fun e w'' => e = .returned (.agg #[.int .i64 2, .int .i64 0, .bool d]) ∧ ∃ q : Regrown, w'' = grow (redrawn wc q.d) q.os) := Lib.hid fun dd os => Calls.regrown_of (QF.out _)
                have cg0 : ∀ dd os, (grow (redrawn wc dd) os).cell? ⟨u, 0, none⟩ = some (.int .i64 r0) := fun dd os => (trio (((below_regrown wc dd os).block _ (lt_of_heap HXU8.out)).trans HXU8.out)).1
                have cg1 : ∀ dd os, (grow (redrawn wc dd) os).cell? ⟨u, 1, none⟩ = some (.int .i64 n0) := fun dd os => (trio (((below_regrown wc dd os).block _ (lt_of_heap HXU8.out)).trans HXU8.out)).2.1
                have cg2 : ∀ dd os, (grow (redrawn wc dd) os).cell? ⟨u, 2, none⟩ = some (.bool t0) := fun dd os => (trio (((below_regrown wc dd os).block _ (lt_of_heap HXU8.out)).trans HXU8.out)).2.2
                have cg3 : ∀ dd os, (grow (redrawn wc dd) os).cell? ⟨u2, 0, none⟩ = some (.int .i64 r1) := fun dd os => (trio (((below_regrown wc dd os).block _ (lt_of_heap HXU2.out)).trans HXU2.out)).1
                have cg4 : ∀ dd os, (grow (redrawn wc dd) os).cell? ⟨u2, 1, none⟩ = some (.int .i64 n1) := fun dd os => (trio (((below_regrown wc dd os).block _ (lt_of_heap HXU2.out)).trans HXU2.out)).2.1
                have cg5 : ∀ dd os, (grow (redrawn wc dd) os).cell? ⟨u2, 2, none⟩ = some (.bool t1) := fun dd os => (trio (((below_regrown wc dd os).block _ (lt_of_heap HXU2.out)).trans HXU2.out)).2.2
                refine wp_region_quiet_below (by kernel_rfl) (by kernel_rfl) ?_
                repeat (first | go_big_quiet_step (with_reducible exact CQ.out _ _) | quiet_step (with_reducible exact CQ.out _ _))
                refine wpQuiet_nil ?_
                rintro _ ⟨⟨dq, osq⟩, hw''⟩
                subst hw''
                have HB4 := Lib.hid (below_regrown wc dq osq)
                clear cg0 cg1 cg2 cg3 cg4 cg5
                go_upto_region 6 with fail
                refine wp_letter (fun V => Below wc.heap.size wc V) HB4.out ?_
                rintro W9 hw8
                have HE8 := Lib.hid (HE3.out.next hw8)
                have HY0 := Lib.hid ((hw8.block _ (lt_of_heap HXU2.out)).trans HXU2.out)
                clear hw8
                clear k0 k1 k2 l0 l1 l2
                obtain ⟨k0, k1, k2⟩ := trio HY0.out
                obtain ⟨q0', q1', q2'⟩ := trio HE8.out.va
                have p0 : W9.frozen? ⟨z + 1 + 1, 0, none⟩ = false := free_blk HE8.out.va 0
                have p1 : W9.frozen? ⟨z + 1 + 1, 1, none⟩ = false := free_blk HE8.out.va 1
                have p2 : W9.frozen? ⟨z + 1 + 1, 2, none⟩ = false := free_blk HE8.out.va 2
                go_wp2_with fail
                have HS9 := Lib.hid (three_set W9 (z + 1 + 1) (.int .i64 r1) (.int .i64 n1) (.bool t1) _ _ ⟨_, _, _, rfl⟩ HE8.out.va)
                clear q0' q1' q2' p0 p1 p2
                obtain ⟨W10, hW9⟩ : ∃ X, (((W9.setCell ⟨z + 1 + 1, 0, none⟩ (.int .i64 r1)).setCell ⟨z + 1 + 1, 1, none⟩ (.int .i64 n1)).setCell ⟨z + 1 + 1, 2, none⟩ (.bool t1)) = X := ⟨_, rfl⟩
                obtain ⟨k9, _, _, x9⟩ := HS9.out W10 hW9
                rw [hW9]
                obtain ⟨d0, d1, d2⟩ := trio x9
                exact bodyPost_ret (v := .agg #[.int .i64 r1, .int .i64 n1, .bool t1]) (by simp [results, Try.results90, go_sem, d0, d1, d2]) rfl ⟨by rw [HR3.out], HE8.out.bel.trans (k9.mono (by have := HE8.out.le; omega))⟩
              | false =>
                have HR3 : Hid (jnV d v0 v1 = unkV) := Lib.hid (by rw [HR2.out]; rfl)
                have CQ : Hid (∀ dd os, Calls Try.prog 92 #[.bool d] (grow (redrawn wc dd) os) fun e w'' => e = .returned (.agg #[.int .i64 2, .int .i64 0, .bool d]) ∧ ∃ q : Regrown, w'' = grow (redrawn wc q.d) q.os) := Lib.hid fun dd os => Calls.regrown_of (QF.out _)
                have cg0 : ∀ dd os, (grow (redrawn wc dd) os).cell? ⟨u, 0, none⟩ = some (.int .i64 r0) := fun dd os => (trio (((below_regrown wc dd os).block _ (lt_of_heap HXU8.out)).trans HXU8.out)).1
                have cg1 : ∀ dd os, (grow (redrawn wc dd) os).cell? ⟨u, 1, none⟩ = some (.int .i64 n0) := fun dd os => (trio (((below_regrown wc dd os).block _ (lt_of_heap HXU8.out)).trans HXU8.out)).2.1
                have cg2 : ∀ dd os, (grow (redrawn wc dd) os).cell? ⟨u, 2, none⟩ = some (.bool t0) := fun dd os => (trio (((below_regrown wc dd os).block _ (lt_of_heap HXU8.out)).trans HXU8.out)).2.2
                have cg3 : ∀ dd os, (grow (redrawn wc dd) os).cell? ⟨u2, 0, none⟩ = some (.int .i64 r1) := fun dd os => (trio (((below_regrown wc dd os).block _ (lt_of_heap HXU2.out)).trans HXU2.out)).1
                have cg4 : ∀ dd os, (grow (redrawn wc dd) os).cell? ⟨u2, 1, none⟩ = some (.int .i64 n1) := fun dd os => (trio (((below_regrown wc dd os).block _ (lt_of_heap HXU2.out)).trans HXU2.out)).2.1
                have cg5 : ∀ dd os, (grow (redrawn wc dd) os).cell? ⟨u2, 2, none⟩ = some (.bool t1) := fun dd os => (trio (((below_regrown wc dd os).block _ (lt_of_heap HXU2.out)).trans HXU2.out)).2.2
                refine wp_region_quiet_below (by kernel_rfl) (by kernel_rfl) ?_
                repeat (first | go_big_quiet_step (with_reducible exact CQ.out _ _) | quiet_step (with_reducible exact CQ.out _ _))
                refine wpQuiet_nil ?_
                rintro _ ⟨⟨dq, osq⟩, hw''⟩
                subst hw''
                have HB4 := Lib.hid (below_regrown wc dq osq)
                clear cg0 cg1 cg2 cg3 cg4 cg5
                go_upto_region 7 with fail
                refine wp_letter (fun V => Below wc.heap.size wc V) HB4.out ?_
                rintro W9 hw8
                have HE8 := Lib.hid (HE3.out.next hw8)
                have HY0 := Lib.hid ((hw8.block _ (lt_of_heap HXU2.out)).trans HXU2.out)
                clear hw8
                clear k0 k1 k2 l0 l1 l2
                obtain ⟨q0', q1', q2'⟩ := trio HE8.out.va
                have p0 : W9.frozen? ⟨z + 1 + 1, 0, none⟩ = false := free_blk HE8.out.va 0
                have p1 : W9.frozen? ⟨z + 1 + 1, 1, none⟩ = false := free_blk HE8.out.va 1
                have p2 : W9.frozen? ⟨z + 1 + 1, 2, none⟩ = false := free_blk HE8.out.va 2
                go_wp2_with fail
                have HS9 := Lib.hid (three_set W9 (z + 1 + 1) (.int .i64 0) (.int .i64 0) (.bool false) _ _ ⟨_, _, _, rfl⟩ HE8.out.va)
                clear q0' q1' q2' p0 p1 p2
                obtain ⟨W10, hW9⟩ : ∃ X, (((W9.setCell ⟨z + 1 + 1, 0, none⟩ (.int .i64 0)).setCell ⟨z + 1 + 1, 1, none⟩ (.int .i64 0)).setCell ⟨z + 1 + 1, 2, none⟩ (.bool false)) = X := ⟨_, rfl⟩
                obtain ⟨k9, _, _, x9⟩ := HS9.out W10 hW9
                rw [hW9]
                obtain ⟨d0, d1, d2⟩ := trio x9
                exact bodyPost_ret (v := .agg #[.int .i64 0, .int .i64 0, .bool false]) (by simp [results, Try.results90, go_sem, d0, d1, d2]) rfl ⟨by rw [HR3.out]; rfl, HE8.out.bel.trans (k9.mono (by have := HE8.out.le; omega))⟩
theorem set3_cell (V : World) (rb : Nat) (x0 x1 x2 : Value) {p : Addr} (hb : p.block ≠ rb) : (((V.setCell ⟨rb, 0, none⟩ x0).setCell ⟨rb, 1, none⟩ x1).setCell ⟨rb, 2, none⟩ x2).cell? p = V.cell? p :=
  cell_heap ((Below.heap_setCell _ _ _ _ hb).trans ((Below.heap_setCell _ _ _ _ hb).trans (Below.heap_setCell _ _ _ _ hb)))
set_option maxRecDepth 100000 in
set_option maxHeartbeats 8000000 in
theorem chosen_any {xo xn : Int} {xs : ByteArray} {a : Addr} {k : Nat} {day : Int} {fa : Option Addr} {fm fc : Nat} (v0 v1 v2 : Vl) (w : World) {yo yn : Int} {ys : ByteArray} {co : Option Addr} {cm ck : Nat} {zo zn : Int} {zs : ByteArray} {co1 : Option Addr} {dm ck1 : Nat} {uo un : Int} {us : ByteArray} {co2 : Option Addr} {um ck2 : Nat} (ha : a.block < w.heap.size)
    (hf0 : FourX w a (.int .i64 yo) (.int .i64 yn) (.string ys) (.slice co cm ck)) (hf1 : FourX w ⟨a.block, a.off + 4, none⟩ (.int .i64 zo) (.int .i64 zn) (.string zs) (.slice co1 dm ck1)) (hf2 : FourX w ⟨a.block, a.off + 8, none⟩ (.int .i64 uo) (.int .i64 un) (.string us) (.slice co2 um ck2))
    (h0 : ∀ V, Below w.heap.size w V → Calls Try.prog 66 #[.agg #[.int .i64 yo, .int .i64 yn, .string ys, .slice co cm ck], .agg #[.int .i64 day, .slice fa fm fc]] V fun e w' => e = .returned (vlV v0) ∧ Below V.heap.size V w')
    (h1 : ∀ V, Below w.heap.size w V → Calls Try.prog 66 #[.agg #[.int .i64 zo, .int .i64 zn, .string zs, .slice co1 dm ck1], .agg #[.int .i64 day, .slice fa fm fc]] V fun e w' => e = .returned (vlV v1) ∧ Below V.heap.size V w')
    (h2 : ∀ V, Below w.heap.size w V → Calls Try.prog 66 #[.agg #[.int .i64 uo, .int .i64 un, .string us, .slice co2 um ck2], .agg #[.int .i64 day, .slice fa fm fc]] V fun e w' => e = .returned (vlV v2) ∧ Below V.heap.size V w') :
    Calls Try.prog 91 #[.agg #[.int .i64 xo, .int .i64 xn, .string xs, .slice (some a) 3 k], .agg #[.int .i64 day, .slice fa fm fc]] w fun e w' => e = .returned (vlV (chV v0 v1 v2)) ∧ Below w.heap.size w w' := by
  have GA := Lib.hid (entry_made (.int .i64 xo) (.int .i64 xn) (.string xs) (.slice (some a) 3 k) (.int .i64 day) (.slice fa fm fc) w)
  have C0 := Lib.hid h0
  have C1 := Lib.hid h1
  have C2 := Lib.hid h2
  have HAB := Lib.hid ha
  have HC0 : Hid (∀ V, Below w.heap.size w V → FourX V a (.int .i64 yo) (.int .i64 yn) (.string ys) (.slice co cm ck)) := Lib.hid fun V hV => hf0.stay (hV.block _ ha)
  have HC1 : Hid (∀ V, Below w.heap.size w V → FourX V ⟨a.block, a.off + 4, none⟩ (.int .i64 zo) (.int .i64 zn) (.string zs) (.slice co1 dm ck1)) := Lib.hid fun V hV => hf1.stay (hV.block _ ha)
  have HC2 : Hid (∀ V, Below w.heap.size w V → FourX V ⟨a.block, a.off + 8, none⟩ (.int .i64 uo) (.int .i64 un) (.string us) (.slice co2 um ck2)) := Lib.hid fun V hV => hf2.stay (hV.block _ ha)
  obtain ⟨r0, hr0⟩ : ∃ r, r = v0.kind := ⟨_, rfl⟩
  obtain ⟨n0, hn0⟩ : ∃ r, r = v0.n := ⟨_, rfl⟩
  obtain ⟨t0, ht0⟩ : ∃ r, r = v0.b := ⟨_, rfl⟩
  have HV0 : Hid (v0 = ⟨r0, n0, t0⟩) := Lib.hid (by rw [hr0, hn0, ht0])
  rw [show vlV v0 = .agg #[.int .i64 r0, .int .i64 n0, .bool t0] from by rw [hr0, hn0, ht0]] at C0
  clear hr0 hn0 ht0
  obtain ⟨r1, hr1⟩ : ∃ r, r = v1.kind := ⟨_, rfl⟩
  obtain ⟨n1, hn1⟩ : ∃ r, r = v1.n := ⟨_, rfl⟩
  obtain ⟨t1, ht1⟩ : ∃ r, r = v1.b := ⟨_, rfl⟩
  have HV1 : Hid (v1 = ⟨r1, n1, t1⟩) := Lib.hid (by rw [hr1, hn1, ht1])
  rw [show vlV v1 = .agg #[.int .i64 r1, .int .i64 n1, .bool t1] from by rw [hr1, hn1, ht1]] at C1
  clear hr1 hn1 ht1
  obtain ⟨r2, hr2⟩ : ∃ r, r = v2.kind := ⟨_, rfl⟩
  obtain ⟨n2, hn2⟩ : ∃ r, r = v2.n := ⟨_, rfl⟩
  obtain ⟨t2, ht2⟩ : ∃ r, r = v2.b := ⟨_, rfl⟩
  have HV2 : Hid (v2 = ⟨r2, n2, t2⟩) := Lib.hid (by rw [hr2, hn2, ht2])
  rw [show vlV v2 = .agg #[.int .i64 r2, .int .i64 n2, .bool t2] from by rw [hr2, hn2, ht2]] at C2
  clear hr2 hn2 ht2
  clear h0 h1 h2 hf0 hf1 hf2 ha
  go_enter Try.func91, Try.ntmps91
  go_upto_region 1 with fail
  obtain ⟨W, hW⟩ : ∃ X, ((w.alloc (.cells #[.int .i64 xo, .int .i64 xn, .string xs, .slice (some a) 3 k] 34)).alloc (.cells #[.int .i64 day, .slice fa fm fc] 63)).alloc (.cells #[.int .i64 0, .int .i64 0, .bool false] 73) = X := ⟨_, rfl⟩
  obtain ⟨g1, b1, b2, b3⟩ := GA.out W hW
  obtain ⟨z, hz⟩ : ∃ z, z = w.heap.size := ⟨_, rfl⟩
  rw [hW, ← hz]
  rw [← hz] at b1 b2 b3
  have HE : Hid (EvB z #[.int .i64 xo, .int .i64 xn, .string xs, .slice (some a) 3 k] #[.int .i64 day, .slice fa fm fc] w W) := Lib.hid ⟨g1, b1, b2, b3, by omega⟩
  clear hW b1 b2 b3 g1 GA hz
  have c3 : W.cell? ⟨z, 3, none⟩ = some (.slice (some a) 3 k) := cell_blk HE.out.ex 3
  obtain ⟨e0, e1⟩ := duo HE.out.en
  obtain ⟨y0, y1, y2, y3⟩ := HC0.out W HE.out.bel
  go_cut [5] (fun p wx => ∃ u : Nat, p = .pointer (some ⟨u, 0, none⟩) ∧ Hid (Below W.heap.size W wx ∧ W.heap.size ≤ u ∧ wx.heap[u]? = some (.cells #[.int .i64 r0, .int .i64 n0, .bool t0] 73 (0, 0))))
  case first =>
    have HBA : Hid (Below W.heap.size W (W.alloc (.cells #[.int .i64 0, .int .i64 0, .bool false] 73)).drew ∧ (W.alloc (.cells #[.int .i64 0, .int .i64 0, .bool false] 73)).drew.heap[W.heap.size]? = some (.cells #[.int .i64 0, .int .i64 0, .bool false] 73 (0, 0))) := Lib.hid ⟨((Below.refl _ _).alloc (Nat.le_refl _) _).drew, heap_alloc_new _ _⟩
    have HBD : Hid (Below W.heap.size W W.drew) := Lib.hid (Below.refl _ _).drew
    have HSF : Hid (∀ V, Below W.heap.size W V → V.cell? ⟨z, 3, none⟩ = some (.slice (some a) 3 k) ∧ V.cell? ⟨z + 1, 0, none⟩ = some (.int .i64 day) ∧ V.cell? ⟨z + 1, 1, none⟩ = some (.slice fa fm fc) ∧ V.cell? a = some (.int .i64 yo) ∧ V.cell? ⟨a.block, a.off + 1, none⟩ = some (.int .i64 yn) ∧ V.cell? ⟨a.block, a.off + 2, none⟩ = some (.string ys) ∧ V.cell? ⟨a.block, a.off + 3, none⟩ = some (.slice co cm ck)) := Lib.hid fun V hV => ⟨cell_blk (HE.out.next hV).ex 3, (duo (HE.out.next hV).en).1, (duo (HE.out.next hV).en).2, (HC0.out V (HE.out.next hV).bel).1, (HC0.out V (HE.out.next hV).bel).2.1, (HC0.out V (HE.out.next hV).bel).2.2.1, (HC0.out V (HE.out.next hV).bel).2.2.2⟩
    go_region_held3 (fun w' => w'.cell? ⟨z, 3, none⟩ = some (.slice (some a) 3 k) ∧ w'.cell? ⟨z + 1, 0, none⟩ = some (.int .i64 day) ∧ w'.cell? ⟨z + 1, 1, none⟩ = some (.slice fa fm fc) ∧ w'.cell? a = some (.int .i64 yo) ∧ w'.cell? ⟨a.block, a.off + 1, none⟩ = some (.int .i64 yn) ∧ w'.cell? ⟨a.block, a.off + 2, none⟩ = some (.string ys) ∧ w'.cell? ⟨a.block, a.off + 3, none⟩ = some (.slice co cm ck))
      (first | exact HSF.out _ HB4.out | exact HSF.out _ (below_mono HB4.out ((Below.refl _ _).alloc (Nat.le_refl _) _) (Nat.le_refl _)) | exact HSF.out _ (((HB4.out.setCell (p := ⟨W.heap.size, 0, none⟩) (Nat.le_refl _) _).setCell (p := ⟨W.heap.size, 1, none⟩) (Nat.le_refl _) _).setCell (p := ⟨W.heap.size, 2, none⟩) (Nat.le_refl _) _) | (go_keep; done))
      (first
        | (go_at_call 66; (with_reducible refine (C0.out _ (HE.out.next HBD.out).bel).mono ?_); rintro e w4 ⟨rfl, hb⟩; have HB4 := Lib.hid (HBD.out.trans hb); clear hb; obtain ⟨⟨n0', n1', n2'⟩, p0, p1, p2⟩ := three_zero w4 (.int .i64 0) (.int .i64 0) (.bool false) 73)
        | (go_at_call 66; (with_reducible refine (C0.out _ (HE.out.next HBA.out.1).bel).mono ?_); rintro e w4 ⟨rfl, hb⟩; have HB4 := Lib.hid (HBA.out.1.trans (hb.mono (by simp))); have HX4 := Lib.hid ((hb.block _ (by simp)).trans HBA.out.2); obtain ⟨n0', n1', n2'⟩ := trio HX4.out; have p0 : w4.frozen? ⟨W.heap.size, 0, none⟩ = false := free_blk HX4.out 0; have p1 : w4.frozen? ⟨W.heap.size, 1, none⟩ = false := free_blk HX4.out 1; have p2 : w4.frozen? ⟨W.heap.size, 2, none⟩ = false := free_blk HX4.out 2; clear hb))
    · go_wp2_with fail
      go_meet
      exact ⟨w4.heap.size, rfl, Lib.hid ⟨below_mono HB4.out ((Below.refl _ _).alloc (Nat.le_refl _) _) (Nat.le_refl _), HB4.out.size, heap_alloc_new _ _⟩⟩
    · go_wp2_with fail
      go_meet
      obtain ⟨k9, _, _, x9⟩ := three_set w4 W.heap.size (.int .i64 r0) (.int .i64 n0) (.bool t0) _ _ ⟨_, _, _, rfl⟩ HX4.out _ rfl
      exact ⟨W.heap.size, rfl, Lib.hid ⟨HB4.out.trans k9, Nat.le_refl _, x9⟩⟩
  case rest =>
    obtain ⟨u, rfl, HU⟩ := hcut
    clear c3 e0 e1 y0 y1 y2 y3
    have HE2 := Lib.hid (HE.out.next HU.out.1)
    have HXU := Lib.hid HU.out.2.2
    have HXB := Lib.hid HE2.out.va
    obtain ⟨k0, k1, k2⟩ := trio HXU.out
    by_cases h3 : r0 = 2
    · subst h3
      cases t0 with
      | true =>
        have HR : Hid (chV v0 v1 v2 = ⟨r1, n1, t1⟩) := Lib.hid (by rw [HV0.out]; exact HV1.out)
        go_upto_region 5 with fail
        have c3 : wc.cell? ⟨z, 3, none⟩ = some (.slice (some a) 3 k) := cell_blk HE2.out.ex 3
        obtain ⟨e0, e1⟩ := duo HE2.out.en
        obtain ⟨y0, y1, y2, y3⟩ := HC1.out wc HE2.out.bel
        have HNE : Hid (z ≠ z + 1 + 1 ∧ z + 1 ≠ z + 1 + 1 ∧ a.block ≠ z + 1 + 1) := Lib.hid ⟨by omega, by omega, by have h1 := HAB.out; have h2 := HE2.out.le; omega⟩
        have HBD : Hid (Below wc.heap.size wc wc.drew) := Lib.hid (Below.refl _ _).drew
        have HSF : Hid (∀ V, Below wc.heap.size wc V → V.cell? ⟨z, 3, none⟩ = some (.slice (some a) 3 k) ∧ V.cell? ⟨z + 1, 0, none⟩ = some (.int .i64 day) ∧ V.cell? ⟨z + 1, 1, none⟩ = some (.slice fa fm fc) ∧ V.cell? ⟨a.block, a.off + 4, none⟩ = some (.int .i64 zo) ∧ V.cell? ⟨a.block, a.off + 4 + 1, none⟩ = some (.int .i64 zn) ∧ V.cell? ⟨a.block, a.off + 4 + 2, none⟩ = some (.string zs) ∧ V.cell? ⟨a.block, a.off + 4 + 3, none⟩ = some (.slice co1 dm ck1)) := Lib.hid fun V hV => ⟨cell_blk (HE2.out.next hV).ex 3, (duo (HE2.out.next hV).en).1, (duo (HE2.out.next hV).en).2, (HC1.out V (HE2.out.next hV).bel).1, (HC1.out V (HE2.out.next hV).bel).2.1, (HC1.out V (HE2.out.next hV).bel).2.2.1, (HC1.out V (HE2.out.next hV).bel).2.2.2⟩
        have HSB : Hid (∀ V, Below wc.heap.size wc V → (((V.setCell ⟨z + 1 + 1, 0, none⟩ (.int .i64 r1)).setCell ⟨z + 1 + 1, 1, none⟩ (.int .i64 n1)).setCell ⟨z + 1 + 1, 2, none⟩ (.bool t1)).cell? ⟨z, 3, none⟩ = some (.slice (some a) 3 k) ∧ (((V.setCell ⟨z + 1 + 1, 0, none⟩ (.int .i64 r1)).setCell ⟨z + 1 + 1, 1, none⟩ (.int .i64 n1)).setCell ⟨z + 1 + 1, 2, none⟩ (.bool t1)).cell? ⟨z + 1, 0, none⟩ = some (.int .i64 day) ∧ (((V.setCell ⟨z + 1 + 1, 0, none⟩ (.int .i64 r1)).setCell ⟨z + 1 + 1, 1, none⟩ (.int .i64 n1)).setCell ⟨z + 1 + 1, 2, none⟩ (.bool t1)).cell? ⟨z + 1, 1, none⟩ = some (.slice fa fm fc) ∧ (((V.setCell ⟨z + 1 + 1, 0, none⟩ (.int .i64 r1)).setCell ⟨z + 1 + 1, 1, none⟩ (.int .i64 n1)).setCell ⟨z + 1 + 1, 2, none⟩ (.bool t1)).cell? ⟨a.block, a.off + 4, none⟩ = some (.int .i64 zo) ∧ (((V.setCell ⟨z + 1 + 1, 0, none⟩ (.int .i64 r1)).setCell ⟨z + 1 + 1, 1, none⟩ (.int .i64 n1)).setCell ⟨z + 1 + 1, 2, none⟩ (.bool t1)).cell? ⟨a.block, a.off + 4 + 1, none⟩ = some (.int .i64 zn) ∧ (((V.setCell ⟨z + 1 + 1, 0, none⟩ (.int .i64 r1)).setCell ⟨z + 1 + 1, 1, none⟩ (.int .i64 n1)).setCell ⟨z + 1 + 1, 2, none⟩ (.bool t1)).cell? ⟨a.block, a.off + 4 + 2, none⟩ = some (.string zs) ∧ (((V.setCell ⟨z + 1 + 1, 0, none⟩ (.int .i64 r1)).setCell ⟨z + 1 + 1, 1, none⟩ (.int .i64 n1)).setCell ⟨z + 1 + 1, 2, none⟩ (.bool t1)).cell? ⟨a.block, a.off + 4 + 3, none⟩ = some (.slice co1 dm ck1)) := Lib.hid fun V hV => ⟨(set3_cell V (z + 1 + 1) _ _ _ (p := ⟨z, 3, none⟩) HNE.out.1).trans (HSF.out V hV).1, (set3_cell V (z + 1 + 1) _ _ _ (p := ⟨z + 1, 0, none⟩) HNE.out.2.1).trans (HSF.out V hV).2.1, (set3_cell V (z + 1 + 1) _ _ _ (p := ⟨z + 1, 1, none⟩) HNE.out.2.1).trans (HSF.out V hV).2.2.1, (set3_cell V (z + 1 + 1) _ _ _ (p := ⟨a.block, a.off + 4, none⟩) HNE.out.2.2).trans (HSF.out V hV).2.2.2.1, (set3_cell V (z + 1 + 1) _ _ _ (p := ⟨a.block, a.off + 4 + 1, none⟩) HNE.out.2.2).trans (HSF.out V hV).2.2.2.2.1, (set3_cell V (z + 1 + 1) _ _ _ (p := ⟨a.block, a.off + 4 + 2, none⟩) HNE.out.2.2).trans (HSF.out V hV).2.2.2.2.2.1, (set3_cell V (z + 1 + 1) _ _ _ (p := ⟨a.block, a.off + 4 + 3, none⟩) HNE.out.2.2).trans (HSF.out V hV).2.2.2.2.2.2⟩
        go_region_held3 (fun w' => w'.cell? ⟨z, 3, none⟩ = some (.slice (some a) 3 k) ∧ w'.cell? ⟨z + 1, 0, none⟩ = some (.int .i64 day) ∧ w'.cell? ⟨z + 1, 1, none⟩ = some (.slice fa fm fc) ∧ w'.cell? ⟨a.block, a.off + 4, none⟩ = some (.int .i64 zo) ∧ w'.cell? ⟨a.block, a.off + 4 + 1, none⟩ = some (.int .i64 zn) ∧ w'.cell? ⟨a.block, a.off + 4 + 2, none⟩ = some (.string zs) ∧ w'.cell? ⟨a.block, a.off + 4 + 3, none⟩ = some (.slice co1 dm ck1))
          (first | exact HSF.out _ HB4.out | exact HSB.out w4 HB4.out | (go_keep; done))
          ((go_at_call 66; (with_reducible refine (C1.out _ (HE2.out.next HBD.out).bel).mono ?_); rintro e w4 ⟨rfl, hb⟩; have HB4 := Lib.hid (HBD.out.trans hb); clear hb; have HX4 := Lib.hid ((HB4.out.block _ (lt_of_heap HXB.out)).trans HXB.out); obtain ⟨n0', n1', n2'⟩ := trio HX4.out; have p0 : w4.frozen? ⟨z + 1 + 1, 0, none⟩ = false := free_blk HX4.out 0; have p1 : w4.frozen? ⟨z + 1 + 1, 1, none⟩ = false := free_blk HX4.out 1; have p2 : w4.frozen? ⟨z + 1 + 1, 2, none⟩ = false := free_blk HX4.out 2))
        go_wp2_with fail
        obtain ⟨W10, hW10⟩ : ∃ X, (((w4.setCell ⟨z + 1 + 1, 0, none⟩ (.int .i64 r1)).setCell ⟨z + 1 + 1, 1, none⟩ (.int .i64 n1)).setCell ⟨z + 1 + 1, 2, none⟩ (.bool t1)) = X := ⟨_, rfl⟩
        obtain ⟨k9, _, _, x9⟩ := three_set w4 (z + 1 + 1) (.int .i64 r1) (.int .i64 n1) (.bool t1) _ _ ⟨_, _, _, rfl⟩ HX4.out W10 hW10
        rw [hW10]
        clear n0' n1' n2' p0 p1 p2
        obtain ⟨d0, d1, d2⟩ := trio x9
        exact bodyPost_ret (v := .agg #[.int .i64 r1, .int .i64 n1, .bool t1]) (by simp [results, Try.results91, go_sem, d0, d1, d2]) rfl ⟨by rw [HR.out], ((HE2.out.bel).trans (HB4.out.mono HE2.out.bel.size)).trans (k9.mono (by have := HE2.out.le; omega))⟩
      | false =>
        have HR : Hid (chV v0 v1 v2 = ⟨r2, n2, t2⟩) := Lib.hid (by rw [HV0.out]; exact HV2.out)
        go_upto_region 6 with fail
        have c3 : wc.cell? ⟨z, 3, none⟩ = some (.slice (some a) 3 k) := cell_blk HE2.out.ex 3
        obtain ⟨e0, e1⟩ := duo HE2.out.en
        obtain ⟨y0, y1, y2, y3⟩ := HC2.out wc HE2.out.bel
        have HNE : Hid (z ≠ z + 1 + 1 ∧ z + 1 ≠ z + 1 + 1 ∧ a.block ≠ z + 1 + 1) := Lib.hid ⟨by omega, by omega, by have h1 := HAB.out; have h2 := HE2.out.le; omega⟩
        have HBD : Hid (Below wc.heap.size wc wc.drew) := Lib.hid (Below.refl _ _).drew
        have HSF : Hid (∀ V, Below wc.heap.size wc V → V.cell? ⟨z, 3, none⟩ = some (.slice (some a) 3 k) ∧ V.cell? ⟨z + 1, 0, none⟩ = some (.int .i64 day) ∧ V.cell? ⟨z + 1, 1, none⟩ = some (.slice fa fm fc) ∧ V.cell? ⟨a.block, a.off + 8, none⟩ = some (.int .i64 uo) ∧ V.cell? ⟨a.block, a.off + 8 + 1, none⟩ = some (.int .i64 un) ∧ V.cell? ⟨a.block, a.off + 8 + 2, none⟩ = some (.string us) ∧ V.cell? ⟨a.block, a.off + 8 + 3, none⟩ = some (.slice co2 um ck2)) := Lib.hid fun V hV => ⟨cell_blk (HE2.out.next hV).ex 3, (duo (HE2.out.next hV).en).1, (duo (HE2.out.next hV).en).2, (HC2.out V (HE2.out.next hV).bel).1, (HC2.out V (HE2.out.next hV).bel).2.1, (HC2.out V (HE2.out.next hV).bel).2.2.1, (HC2.out V (HE2.out.next hV).bel).2.2.2⟩
        have HSB : Hid (∀ V, Below wc.heap.size wc V → (((V.setCell ⟨z + 1 + 1, 0, none⟩ (.int .i64 r2)).setCell ⟨z + 1 + 1, 1, none⟩ (.int .i64 n2)).setCell ⟨z + 1 + 1, 2, none⟩ (.bool t2)).cell? ⟨z, 3, none⟩ = some (.slice (some a) 3 k) ∧ (((V.setCell ⟨z + 1 + 1, 0, none⟩ (.int .i64 r2)).setCell ⟨z + 1 + 1, 1, none⟩ (.int .i64 n2)).setCell ⟨z + 1 + 1, 2, none⟩ (.bool t2)).cell? ⟨z + 1, 0, none⟩ = some (.int .i64 day) ∧ (((V.setCell ⟨z + 1 + 1, 0, none⟩ (.int .i64 r2)).setCell ⟨z + 1 + 1, 1, none⟩ (.int .i64 n2)).setCell ⟨z + 1 + 1, 2, none⟩ (.bool t2)).cell? ⟨z + 1, 1, none⟩ = some (.slice fa fm fc) ∧ (((V.setCell ⟨z + 1 + 1, 0, none⟩ (.int .i64 r2)).setCell ⟨z + 1 + 1, 1, none⟩ (.int .i64 n2)).setCell ⟨z + 1 + 1, 2, none⟩ (.bool t2)).cell? ⟨a.block, a.off + 8, none⟩ = some (.int .i64 uo) ∧ (((V.setCell ⟨z + 1 + 1, 0, none⟩ (.int .i64 r2)).setCell ⟨z + 1 + 1, 1, none⟩ (.int .i64 n2)).setCell ⟨z + 1 + 1, 2, none⟩ (.bool t2)).cell? ⟨a.block, a.off + 8 + 1, none⟩ = some (.int .i64 un) ∧ (((V.setCell ⟨z + 1 + 1, 0, none⟩ (.int .i64 r2)).setCell ⟨z + 1 + 1, 1, none⟩ (.int .i64 n2)).setCell ⟨z + 1 + 1, 2, none⟩ (.bool t2)).cell? ⟨a.block, a.off + 8 + 2, none⟩ = some (.string us) ∧ (((V.setCell ⟨z + 1 + 1, 0, none⟩ (.int .i64 r2)).setCell ⟨z + 1 + 1, 1, none⟩ (.int .i64 n2)).setCell ⟨z + 1 + 1, 2, none⟩ (.bool t2)).cell? ⟨a.block, a.off + 8 + 3, none⟩ = some (.slice co2 um ck2)) := Lib.hid fun V hV => ⟨(set3_cell V (z + 1 + 1) _ _ _ (p := ⟨z, 3, none⟩) HNE.out.1).trans (HSF.out V hV).1, (set3_cell V (z + 1 + 1) _ _ _ (p := ⟨z + 1, 0, none⟩) HNE.out.2.1).trans (HSF.out V hV).2.1, (set3_cell V (z + 1 + 1) _ _ _ (p := ⟨z + 1, 1, none⟩) HNE.out.2.1).trans (HSF.out V hV).2.2.1, (set3_cell V (z + 1 + 1) _ _ _ (p := ⟨a.block, a.off + 8, none⟩) HNE.out.2.2).trans (HSF.out V hV).2.2.2.1, (set3_cell V (z + 1 + 1) _ _ _ (p := ⟨a.block, a.off + 8 + 1, none⟩) HNE.out.2.2).trans (HSF.out V hV).2.2.2.2.1, (set3_cell V (z + 1 + 1) _ _ _ (p := ⟨a.block, a.off + 8 + 2, none⟩) HNE.out.2.2).trans (HSF.out V hV).2.2.2.2.2.1, (set3_cell V (z + 1 + 1) _ _ _ (p := ⟨a.block, a.off + 8 + 3, none⟩) HNE.out.2.2).trans (HSF.out V hV).2.2.2.2.2.2⟩
        go_region_held3 (fun w' => w'.cell? ⟨z, 3, none⟩ = some (.slice (some a) 3 k) ∧ w'.cell? ⟨z + 1, 0, none⟩ = some (.int .i64 day) ∧ w'.cell? ⟨z + 1, 1, none⟩ = some (.slice fa fm fc) ∧ w'.cell? ⟨a.block, a.off + 8, none⟩ = some (.int .i64 uo) ∧ w'.cell? ⟨a.block, a.off + 8 + 1, none⟩ = some (.int .i64 un) ∧ w'.cell? ⟨a.block, a.off + 8 + 2, none⟩ = some (.string us) ∧ w'.cell? ⟨a.block, a.off + 8 + 3, none⟩ = some (.slice co2 um ck2))
          (first | exact HSF.out _ HB4.out | exact HSB.out w4 HB4.out | (go_keep; done))
          ((go_at_call 66; (with_reducible refine (C2.out _ (HE2.out.next HBD.out).bel).mono ?_); rintro e w4 ⟨rfl, hb⟩; have HB4 := Lib.hid (HBD.out.trans hb); clear hb; have HX4 := Lib.hid ((HB4.out.block _ (lt_of_heap HXB.out)).trans HXB.out); obtain ⟨n0', n1', n2'⟩ := trio HX4.out; have p0 : w4.frozen? ⟨z + 1 + 1, 0, none⟩ = false := free_blk HX4.out 0; have p1 : w4.frozen? ⟨z + 1 + 1, 1, none⟩ = false := free_blk HX4.out 1; have p2 : w4.frozen? ⟨z + 1 + 1, 2, none⟩ = false := free_blk HX4.out 2))
        go_wp2_with fail
        obtain ⟨W10, hW10⟩ : ∃ X, (((w4.setCell ⟨z + 1 + 1, 0, none⟩ (.int .i64 r2)).setCell ⟨z + 1 + 1, 1, none⟩ (.int .i64 n2)).setCell ⟨z + 1 + 1, 2, none⟩ (.bool t2)) = X := ⟨_, rfl⟩
        obtain ⟨k9, _, _, x9⟩ := three_set w4 (z + 1 + 1) (.int .i64 r2) (.int .i64 n2) (.bool t2) _ _ ⟨_, _, _, rfl⟩ HX4.out W10 hW10
        rw [hW10]
        clear n0' n1' n2' p0 p1 p2
        obtain ⟨d0, d1, d2⟩ := trio x9
        exact bodyPost_ret (v := .agg #[.int .i64 r2, .int .i64 n2, .bool t2]) (by simp [results, Try.results91, go_sem, d0, d1, d2]) rfl ⟨by rw [HR.out], ((HE2.out.bel).trans (HB4.out.mono HE2.out.bel.size)).trans (k9.mono (by have := HE2.out.le; omega))⟩
    · have f3 : (r0 == 2) = false := by simp [h3]
      have HR : Hid (chV v0 v1 v2 = ⟨r0, n0, t0⟩) := Lib.hid (by unfold chV; rw [if_neg (by rw [HV0.out]; exact h3)]; exact HV0.out)
      go_upto_region 3 with fail
      obtain ⟨q0', q1', q2'⟩ := trio HE2.out.va
      have p0 : wc.frozen? ⟨z + 1 + 1, 0, none⟩ = false := free_blk HE2.out.va 0
      have p1 : wc.frozen? ⟨z + 1 + 1, 1, none⟩ = false := free_blk HE2.out.va 1
      have p2 : wc.frozen? ⟨z + 1 + 1, 2, none⟩ = false := free_blk HE2.out.va 2
      go_wp2_with fail
      have HS9 := Lib.hid (three_set wc (z + 1 + 1) (.int .i64 r0) (.int .i64 n0) (.bool t0) _ _ ⟨_, _, _, rfl⟩ HE2.out.va)
      clear q0' q1' q2' p0 p1 p2
      obtain ⟨W9, hW9⟩ : ∃ X, (((wc.setCell ⟨z + 1 + 1, 0, none⟩ (.int .i64 r0)).setCell ⟨z + 1 + 1, 1, none⟩ (.int .i64 n0)).setCell ⟨z + 1 + 1, 2, none⟩ (.bool t0)) = X := ⟨_, rfl⟩
      obtain ⟨k9, _, _, x9⟩ := HS9.out W9 hW9
      rw [hW9]
      obtain ⟨d0, d1, d2⟩ := trio x9
      exact bodyPost_ret (v := .agg #[.int .i64 r0, .int .i64 n0, .bool t0]) (by simp [results, Try.results91, go_sem, d0, d1, d2]) rfl ⟨by rw [HR.out], HE2.out.bel.trans (k9.mono (by have := HE2.out.le; omega))⟩
end Go.Proofs.Ytidldlhhmophjaa
namespace Go.Proofs.Ytidldlhhmophjaa
open Go.RowKit Go.PlainAid Go.Sort
set_option linter.unusedVariables false
set_option linter.unusedSimpArgs false
/-- What a node's op is asked of numbers. -/
def wokN (P : Int → Int → Int → Prop) (o : Int) (vs : List Vl) : Prop := match vs with
  | [a] => o = 20 → P o a.n a.n
  | [a, b] => 5 ≤ o ∧ o ≤ 16 → P o a.n b.n
  | _ => True
def Xp.wok (P : Int → Int → Int → Prop) (sn : ByteArray → Option Fx) (day : Int) : Xp → Prop
  | .mk o n s l => wokN P o (Xp.ev.evs sn day l) ∧ woks l
where woks : List Xp → Prop
  | [] => True
  | x :: t => x.wok P sn day ∧ woks t
theorem woks_all (P : Int → Int → Int → Prop) (sn : ByteArray → Option Fx) (day : Int) (l : List Xp) : Xp.wok.woks P sn day l ↔ ∀ y ∈ l, y.wok P sn day := by
  induction l with
  | nil => simp [Xp.wok.woks]
  | cons x t ih => simp [Xp.wok.woks, ih]
theorem Xp.wok_eq (P : Int → Int → Int → Prop) (sn : ByteArray → Option Fx) (day : Int) (x : Xp) : x.wok P sn day ↔ wokN P x.op (x.args.map (Xp.ev sn day)) ∧ ∀ y ∈ x.args, y.wok P sn day := by
  cases x with
  | mk o n s l =>
    show wokN P o (Xp.ev.evs sn day l) ∧ Xp.wok.woks P sn day l ↔ _
    rw [evs_map, woks_all]
    exact Iff.rfl
theorem EvB.set {z u : Nat} {xv ev : Array Value} {w W V : World} (h : EvB z xv ev w W) (hu : z + 1 + 1 < u) (hs : ∀ b, b ≠ u → V.heap[b]? = W.heap[b]?) (hb : Below w.heap.size w V) : EvB z xv ev w V :=
  ⟨hb, (hs _ (by omega)).trans h.ex, (hs _ (by omega)).trans h.en, (hs _ (by omega)).trans h.va, h.le⟩
set_option maxRecDepth 100000 in
set_option maxHeartbeats 16000000 in
theorem eval_any {S R : Nat → Prop} {B : Nat} (hS : ∀ b, S b → b < B) (hR : ∀ b, R b → b < B) {P : Int → Int → Int → Prop} (hW : ∀ o a b, P o a b → ∀ w, Calls Try.prog 93 #[.int .i64 o, .int .i64 a, .int .i64 b] w fun e w' => e = .returned (vlV (wkV o a b)) ∧ Below w.heap.size w w') {F : List Fx} {fa : Option Addr} {fc : Nat} {day : Int} (hl : F.length ≤ 200) (x : Xp) : ∀ (bo : Option Addr) (k : Nat) (w : World), B ≤ w.heap.size → x.blt = true → x.wok P (fun s => seenF day s F) day → x.args.length ≤ k → ExL S w x.args bo → FxA R fa F w →
    Calls Try.prog 66 #[exV x bo k, .agg #[.int .i64 day, .slice fa F.length fc]] w fun e w' => e = .returned (vlV (x.ev (fun s => seenF day s F) day)) ∧ Below w.heap.size w w' := by
  induction x using Xp.ind with
  | h x IH =>
  intro bo k w hB hb hok hk hx hfx
  obtain ⟨hlen, ⟨hp1, hp2⟩, hbl⟩ := xblt_len hb
  have hev := x.ev_eq (fun s => seenF day s F) day
  have hwk := (x.wok_eq P (fun s => seenF day s F) day).1 hok
  obtain ⟨l, hl'⟩ : ∃ l, l = x.args := ⟨_, rfl⟩
  rw [← hl'] at IH hk hx hlen hev hbl hwk
  have hS' : ∀ b, S b → b < w.heap.size := fun b h => by have := hS b h; omega
  have hR' : ∀ b, R b → b < w.heap.size := fun b h => by have := hR b h; omega
  have CSN : Hid (∀ s W, Below w.heap.size w W → Calls Try.prog 35 #[.agg #[.int .i64 day, .slice fa F.length fc], .string s] W fun e w' => e = .returned (.tuple #[.int .i64 (snV (seenF day s F)), .bool (snB (seenF day s F))]) ∧ Below W.heap.size W w') := Lib.hid fun s W h => seen_any day s W (hfx.stay (fun _ h => h) fun b hb => h.block b (hR' b hb)) hl fun b hb => Nat.lt_of_lt_of_le (hR' b hb) h.size
  have HI : Hid (∀ y ∈ l, ∀ (co : Option Addr) (ck : Nat), y.args.length ≤ ck → ExL S w y.args co → ∀ W, Below w.heap.size w W → Calls Try.prog 66 #[exV y co ck, .agg #[.int .i64 day, .slice fa F.length fc]] W fun e w' => e = .returned (vlV (y.ev (fun s => seenF day s F) day)) ∧ Below W.heap.size W w') := Lib.hid fun y hy co ck h1 h2 W h => IH y hy co ck W (by have := h.size; omega) (hbl y hy) (hwk.2 y hy) h1 (h2.stay (fun _ h => h) fun b hb => h.block b (hS' b hb)) (hfx.stay (fun _ h => h) fun b hb => h.block b (hR' b hb))
  obtain ⟨fm, hfm⟩ : ∃ m, m = F.length := ⟨_, rfl⟩
  rw [← hfm] at CSN HI ⊢
  obtain ⟨m, hm⟩ : ∃ m, m = l.length := ⟨_, rfl⟩
  obtain ⟨xo, hxo⟩ : ∃ v, v = x.op := ⟨_, rfl⟩
  obtain ⟨xn, hxn⟩ : ∃ v, v = x.n := ⟨_, rfl⟩
  obtain ⟨xs, hxs⟩ : ∃ v, v = x.nm := ⟨_, rfl⟩
  rw [show exV x bo k = .agg #[.int .i64 xo, .int .i64 xn, .string xs, .slice bo m k] from by rw [hm, hl', hxo, hxn, hxs]]
  rw [← hxo] at hlen hp1 hp2 hev hwk
  rw [← hxn, ← hxs] at hev
  obtain ⟨RES, hRES⟩ : ∃ v, v = x.ev (fun s => seenF day s F) day := ⟨_, rfl⟩
  rw [← hRES] at hev ⊢
  have HEV := Lib.hid hev
  have HWK := Lib.hid hwk.1
  have HM := Lib.hid hm
  have HXX := Lib.hid hx
  have HSB := Lib.hid hS'
  have HKM := Lib.hid (show l.length ≤ k from hk)
  have HW := Lib.hid hW
  rw [← hm] at hlen
  have CN : Hid (∀ (n : Int) W, Calls Try.prog 89 #[.int .i64 n, .bool true] W fun e w' => e = .returned (.agg #[.int .i64 1, .int .i64 n, .bool false]) ∧ Below W.heap.size W w') := Lib.hid fun n W => number_yes n W
  have CT : Hid (∀ (t : Bool) W, Calls Try.prog 92 #[.bool t] W fun e w' => e = .returned (.agg #[.int .i64 2, .int .i64 0, .bool t]) ∧ Below W.heap.size W w') := Lib.hid fun t W => truth_any t W
  have GA := Lib.hid (entry_made (.int .i64 xo) (.int .i64 xn) (.string xs) (.slice bo m k) (.int .i64 day) (.slice fa fm fc) w)
  clear IH hb hok hk hx hfx hev hwk hl' hS' hR' hm hxo hxn hxs hRES hbl hfm hl hB
  by_cases q1 : xo = 1
  · subst q1
    go_enter Try.func66, Try.ntmps66
    go_upto_region 1 with fail
    obtain ⟨W, hW⟩ : ∃ X, ((w.alloc (.cells #[.int .i64 1, .int .i64 xn, .string xs, .slice bo m k] 34)).alloc (.cells #[.int .i64 day, .slice fa fm fc] 63)).alloc (.cells #[.int .i64 0, .int .i64 0, .bool false] 73) = X := ⟨_, rfl⟩
    obtain ⟨g1, b1, b2, b3⟩ := GA.out W hW
    obtain ⟨z, hz⟩ : ∃ z, z = w.heap.size := ⟨_, rfl⟩
    rw [hW, ← hz]
    rw [← hz] at b1 b2 b3
    have HE : Hid (EvB z #[.int .i64 1, .int .i64 xn, .string xs, .slice bo m k] #[.int .i64 day, .slice fa fm fc] w W) := Lib.hid ⟨g1, b1, b2, b3, by omega⟩
    clear hW b1 b2 b3 g1 GA hz
    obtain ⟨c0, c1, c2, c3⟩ := quad HE.out.ex
    obtain ⟨e0, e1⟩ := duo HE.out.en
    go_wp2_with (go_at_call 89; (with_reducible refine (CN.out xn _).mono ?_); rintro e w4 ⟨rfl, hb⟩; have HB4 := Lib.hid hb; have HX4 := Lib.hid ((hb.block _ (lt_of_heap HE.out.va)).trans HE.out.va); obtain ⟨n0', n1', n2'⟩ := trio HX4.out; have p0 : w4.frozen? ⟨z + 1 + 1, 0, none⟩ = false := free_blk HX4.out 0; have p1 : w4.frozen? ⟨z + 1 + 1, 1, none⟩ = false := free_blk HX4.out 1; have p2 : w4.frozen? ⟨z + 1 + 1, 2, none⟩ = false := free_blk HX4.out 2; clear hb)
    obtain ⟨W10, hW10⟩ : ∃ X, (((w4.setCell ⟨z + 1 + 1, 0, none⟩ (.int .i64 1)).setCell ⟨z + 1 + 1, 1, none⟩ (.int .i64 xn)).setCell ⟨z + 1 + 1, 2, none⟩ (.bool false)) = X := ⟨_, rfl⟩
    obtain ⟨k9, _, _, x9⟩ := three_set w4 (z + 1 + 1) (.int .i64 1) (.int .i64 xn) (.bool false) _ _ ⟨_, _, _, rfl⟩ HX4.out W10 hW10
    rw [hW10]
    clear n0' n1' n2' p0 p1 p2
    obtain ⟨d0, d1, d2⟩ := trio x9
    exact bodyPost_ret (v := .agg #[.int .i64 1, .int .i64 xn, .bool false]) (by simp [results, Try.results66, go_sem, d0, d1, d2]) rfl ⟨by rw [HEV.out]; rfl, ((HE.out.bel).trans (HB4.out.mono HE.out.bel.size)).trans (k9.mono (by have := HE.out.le; omega))⟩
  · have e1 : (xo == 1) = false := by simp [q1]
    by_cases q2 : xo = 2
    · subst q2
      go_enter Try.func66, Try.ntmps66
      go_upto_region 1 with fail
      obtain ⟨W, hW⟩ : ∃ X, ((w.alloc (.cells #[.int .i64 2, .int .i64 xn, .string xs, .slice bo m k] 34)).alloc (.cells #[.int .i64 day, .slice fa fm fc] 63)).alloc (.cells #[.int .i64 0, .int .i64 0, .bool false] 73) = X := ⟨_, rfl⟩
      obtain ⟨g1, b1, b2, b3⟩ := GA.out W hW
      obtain ⟨z, hz⟩ : ∃ z, z = w.heap.size := ⟨_, rfl⟩
      rw [hW, ← hz]
      rw [← hz] at b1 b2 b3
      have HE : Hid (EvB z #[.int .i64 2, .int .i64 xn, .string xs, .slice bo m k] #[.int .i64 day, .slice fa fm fc] w W) := Lib.hid ⟨g1, b1, b2, b3, by omega⟩
      clear hW b1 b2 b3 g1 GA hz
      obtain ⟨c0, c1, c2, c3⟩ := quad HE.out.ex
      obtain ⟨e0, e1⟩ := duo HE.out.en
      go_wp2_with (go_at_call 89; (with_reducible refine (CN.out xn _).mono ?_); rintro e w4 ⟨rfl, hb⟩; have HB4 := Lib.hid hb; have HX4 := Lib.hid ((hb.block _ (lt_of_heap HE.out.va)).trans HE.out.va); obtain ⟨n0', n1', n2'⟩ := trio HX4.out; have p0 : w4.frozen? ⟨z + 1 + 1, 0, none⟩ = false := free_blk HX4.out 0; have p1 : w4.frozen? ⟨z + 1 + 1, 1, none⟩ = false := free_blk HX4.out 1; have p2 : w4.frozen? ⟨z + 1 + 1, 2, none⟩ = false := free_blk HX4.out 2; clear hb)
      obtain ⟨W10, hW10⟩ : ∃ X, (((w4.setCell ⟨z + 1 + 1, 0, none⟩ (.int .i64 1)).setCell ⟨z + 1 + 1, 1, none⟩ (.int .i64 xn)).setCell ⟨z + 1 + 1, 2, none⟩ (.bool false)) = X := ⟨_, rfl⟩
      obtain ⟨k9, _, _, x9⟩ := three_set w4 (z + 1 + 1) (.int .i64 1) (.int .i64 xn) (.bool false) _ _ ⟨_, _, _, rfl⟩ HX4.out W10 hW10
      rw [hW10]
      clear n0' n1' n2' p0 p1 p2
      obtain ⟨d0, d1, d2⟩ := trio x9
      exact bodyPost_ret (v := .agg #[.int .i64 1, .int .i64 xn, .bool false]) (by simp [results, Try.results66, go_sem, d0, d1, d2]) rfl ⟨by rw [HEV.out]; rfl, ((HE.out.bel).trans (HB4.out.mono HE.out.bel.size)).trans (k9.mono (by have := HE.out.le; omega))⟩
    · have e2 : (xo == 2) = false := by simp [q2]
      by_cases q4 : xo = 4
      · subst q4
        go_enter Try.func66, Try.ntmps66
        go_upto_region 1 with fail
        obtain ⟨W, hW⟩ : ∃ X, ((w.alloc (.cells #[.int .i64 4, .int .i64 xn, .string xs, .slice bo m k] 34)).alloc (.cells #[.int .i64 day, .slice fa fm fc] 63)).alloc (.cells #[.int .i64 0, .int .i64 0, .bool false] 73) = X := ⟨_, rfl⟩
        obtain ⟨g1, b1, b2, b3⟩ := GA.out W hW
        obtain ⟨z, hz⟩ : ∃ z, z = w.heap.size := ⟨_, rfl⟩
        rw [hW, ← hz]
        rw [← hz] at b1 b2 b3
        have HE : Hid (EvB z #[.int .i64 4, .int .i64 xn, .string xs, .slice bo m k] #[.int .i64 day, .slice fa fm fc] w W) := Lib.hid ⟨g1, b1, b2, b3, by omega⟩
        clear hW b1 b2 b3 g1 GA hz
        obtain ⟨c0, c1, c2, c3⟩ := quad HE.out.ex
        obtain ⟨e0, e1⟩ := duo HE.out.en
        go_wp2_with (go_at_call 89; (with_reducible refine (CN.out day _).mono ?_); rintro e w4 ⟨rfl, hb⟩; have HB4 := Lib.hid hb; have HX4 := Lib.hid ((hb.block _ (lt_of_heap HE.out.va)).trans HE.out.va); obtain ⟨n0', n1', n2'⟩ := trio HX4.out; have p0 : w4.frozen? ⟨z + 1 + 1, 0, none⟩ = false := free_blk HX4.out 0; have p1 : w4.frozen? ⟨z + 1 + 1, 1, none⟩ = false := free_blk HX4.out 1; have p2 : w4.frozen? ⟨z + 1 + 1, 2, none⟩ = false := free_blk HX4.out 2; clear hb)
        obtain ⟨W10, hW10⟩ : ∃ X, (((w4.setCell ⟨z + 1 + 1, 0, none⟩ (.int .i64 1)).setCell ⟨z + 1 + 1, 1, none⟩ (.int .i64 day)).setCell ⟨z + 1 + 1, 2, none⟩ (.bool false)) = X := ⟨_, rfl⟩
        obtain ⟨k9, _, _, x9⟩ := three_set w4 (z + 1 + 1) (.int .i64 1) (.int .i64 day) (.bool false) _ _ ⟨_, _, _, rfl⟩ HX4.out W10 hW10
        rw [hW10]
        clear n0' n1' n2' p0 p1 p2
        obtain ⟨d0, d1, d2⟩ := trio x9
        exact bodyPost_ret (v := .agg #[.int .i64 1, .int .i64 day, .bool false]) (by simp [results, Try.results66, go_sem, d0, d1, d2]) rfl ⟨by rw [HEV.out]; rfl, ((HE.out.bel).trans (HB4.out.mono HE.out.bel.size)).trans (k9.mono (by have := HE.out.le; omega))⟩
      · have e4 : (xo == 4) = false := by simp [q4]
        by_cases q3 : xo = 3
        · subst q3
          obtain ⟨sv, hsv⟩ : ∃ v, v = seenF day xs F := ⟨_, rfl⟩
          have CS1 := Lib.hid (CSN.out xs)
          rw [← hsv] at CS1
          have HSV := Lib.hid hsv
          clear hsv
          cases sv with
          | none =>
            have CS2 : Hid (∀ W, Below w.heap.size w W → Calls Try.prog 35 #[.agg #[.int .i64 day, .slice fa fm fc], .string xs] W fun e w' => e = .returned (.tuple #[.int .i64 0, .bool false]) ∧ Below W.heap.size W w') := CS1
            have HR : Hid (RES = unkV) := Lib.hid (by rw [HEV.out]; show (match seenF day xs F with | some f => numV f.val | none => unkV) = _; rw [← HSV.out])
            go_enter Try.func66, Try.ntmps66
            go_upto_region 1 with fail
            obtain ⟨W, hW⟩ : ∃ X, ((w.alloc (.cells #[.int .i64 3, .int .i64 xn, .string xs, .slice bo m k] 34)).alloc (.cells #[.int .i64 day, .slice fa fm fc] 63)).alloc (.cells #[.int .i64 0, .int .i64 0, .bool false] 73) = X := ⟨_, rfl⟩
            obtain ⟨g1, b1, b2, b3⟩ := GA.out W hW
            obtain ⟨z, hz⟩ : ∃ z, z = w.heap.size := ⟨_, rfl⟩
            rw [hW, ← hz]
            rw [← hz] at b1 b2 b3
            have HE : Hid (EvB z #[.int .i64 3, .int .i64 xn, .string xs, .slice bo m k] #[.int .i64 day, .slice fa fm fc] w W) := Lib.hid ⟨g1, b1, b2, b3, by omega⟩
            clear hW b1 b2 b3 g1 GA hz
            obtain ⟨c0, c1, c2, c3⟩ := quad HE.out.ex
            obtain ⟨e0, e1⟩ := duo HE.out.en
            go_upto_region 10 with (go_at_call 35; (with_reducible refine (CS2.out _ HE.out.bel).mono ?_); rintro e w3 ⟨rfl, hb⟩; have HE3 := Lib.hid (HE.out.next hb); clear hb)
            obtain ⟨q0', q1', q2'⟩ := trio HE3.out.va
            have p0 : w3.frozen? ⟨z + 1 + 1, 0, none⟩ = false := free_blk HE3.out.va 0
            have p1 : w3.frozen? ⟨z + 1 + 1, 1, none⟩ = false := free_blk HE3.out.va 1
            have p2 : w3.frozen? ⟨z + 1 + 1, 2, none⟩ = false := free_blk HE3.out.va 2
            go_wp2_with fail
            have HS9 := Lib.hid (three_set w3 (z + 1 + 1) (.int .i64 0) (.int .i64 0) (.bool false) _ _ ⟨_, _, _, rfl⟩ HE3.out.va)
            clear q0' q1' q2' p0 p1 p2
            obtain ⟨W9, hW9⟩ : ∃ X, (((w3.setCell ⟨z + 1 + 1, 0, none⟩ (.int .i64 0)).setCell ⟨z + 1 + 1, 1, none⟩ (.int .i64 0)).setCell ⟨z + 1 + 1, 2, none⟩ (.bool false)) = X := ⟨_, rfl⟩
            obtain ⟨k9, _, _, x9⟩ := HS9.out W9 hW9
            rw [hW9]
            obtain ⟨d0, d1, d2⟩ := trio x9
            exact bodyPost_ret (v := .agg #[.int .i64 0, .int .i64 0, .bool false]) (by simp [results, Try.results66, go_sem, d0, d1, d2]) rfl ⟨by rw [HR.out]; rfl, HE3.out.bel.trans (k9.mono (by have := HE3.out.le; omega))⟩
          | some f =>
            obtain ⟨fv, hfv⟩ : ∃ v, v = f.val := ⟨_, rfl⟩
            have CS2 : Hid (∀ W, Below w.heap.size w W → Calls Try.prog 35 #[.agg #[.int .i64 day, .slice fa fm fc], .string xs] W fun e w' => e = .returned (.tuple #[.int .i64 fv, .bool true]) ∧ Below W.heap.size W w') := by rw [hfv]; exact CS1
            have HR : Hid (RES = ⟨1, fv, false⟩) := Lib.hid (by rw [HEV.out, hfv]; show (match seenF day xs F with | some f => numV f.val | none => unkV) = _; rw [← HSV.out]; rfl)
            clear hfv
            go_enter Try.func66, Try.ntmps66
            go_upto_region 1 with fail
            obtain ⟨W, hW⟩ : ∃ X, ((w.alloc (.cells #[.int .i64 3, .int .i64 xn, .string xs, .slice bo m k] 34)).alloc (.cells #[.int .i64 day, .slice fa fm fc] 63)).alloc (.cells #[.int .i64 0, .int .i64 0, .bool false] 73) = X := ⟨_, rfl⟩
            obtain ⟨g1, b1, b2, b3⟩ := GA.out W hW
            obtain ⟨z, hz⟩ : ∃ z, z = w.heap.size := ⟨_, rfl⟩
            rw [hW, ← hz]
            rw [← hz] at b1 b2 b3
            have HE : Hid (EvB z #[.int .i64 3, .int .i64 xn, .string xs, .slice bo m k] #[.int .i64 day, .slice fa fm fc] w W) := Lib.hid ⟨g1, b1, b2, b3, by omega⟩
            clear hW b1 b2 b3 g1 GA hz
            obtain ⟨c0, c1, c2, c3⟩ := quad HE.out.ex
            obtain ⟨e0, e1⟩ := duo HE.out.en
            go_upto_region 11 with (go_at_call 35; (with_reducible refine (CS2.out _ HE.out.bel).mono ?_); rintro e w3 ⟨rfl, hb⟩; have HE3 := Lib.hid (HE.out.next hb); clear hb)
            go_wp2_with (go_at_call 89; (with_reducible refine (CN.out fv _).mono ?_); rintro e w4 ⟨rfl, hb⟩; have HB4 := Lib.hid hb; have HX4 := Lib.hid ((hb.block _ (lt_of_heap HE3.out.va)).trans HE3.out.va); obtain ⟨n0', n1', n2'⟩ := trio HX4.out; have p0 : w4.frozen? ⟨z + 1 + 1, 0, none⟩ = false := free_blk HX4.out 0; have p1 : w4.frozen? ⟨z + 1 + 1, 1, none⟩ = false := free_blk HX4.out 1; have p2 : w4.frozen? ⟨z + 1 + 1, 2, none⟩ = false := free_blk HX4.out 2; clear hb)
            obtain ⟨W10, hW10⟩ : ∃ X, (((w4.setCell ⟨z + 1 + 1, 0, none⟩ (.int .i64 1)).setCell ⟨z + 1 + 1, 1, none⟩ (.int .i64 fv)).setCell ⟨z + 1 + 1, 2, none⟩ (.bool false)) = X := ⟨_, rfl⟩
            obtain ⟨k9, _, _, x9⟩ := three_set w4 (z + 1 + 1) (.int .i64 1) (.int .i64 fv) (.bool false) _ _ ⟨_, _, _, rfl⟩ HX4.out W10 hW10
            rw [hW10]
            clear n0' n1' n2' p0 p1 p2
            obtain ⟨d0, d1, d2⟩ := trio x9
            exact bodyPost_ret (v := .agg #[.int .i64 1, .int .i64 fv, .bool false]) (by simp [results, Try.results66, go_sem, d0, d1, d2]) rfl ⟨by rw [HR.out], ((HE3.out.bel).trans (HB4.out.mono HE3.out.bel.size)).trans (k9.mono (by have := HE3.out.le; omega))⟩
        · have e3 : (xo == 3) = false := by simp [q3]
          by_cases q17 : xo = 17
          · subst q17
            have hm3 : m = 2 := by
              have h1 : kidX 17 = 2 := by decide
              omega
            subst hm3
            clear hlen
            obtain ⟨g0, g1, hu⟩ : ∃ g0 g1, l = [g0, g1] := by
              have h3 := HM.out
              match l, h3 with
              | [a0, a1], _ => exact ⟨a0, a1, rfl⟩
            subst hu
            obtain ⟨a, co, ck, rfl, hsa0, hck0, hf0, hyl0⟩ := HXX.out.get (i := 0) (x := g0) rfl
            have C0 := Lib.hid (HI.out g0 (by simp) co ck hck0 hyl0)
            obtain ⟨yo, hyo⟩ : ∃ v, v = g0.op := ⟨_, rfl⟩
            obtain ⟨yn, hyn⟩ : ∃ v, v = g0.n := ⟨_, rfl⟩
            obtain ⟨ys, hys⟩ : ∃ v, v = g0.nm := ⟨_, rfl⟩
            obtain ⟨cm, hcm⟩ : ∃ v, v = g0.args.length := ⟨_, rfl⟩
            rw [show exV g0 co ck = .agg #[.int .i64 yo, .int .i64 yn, .string ys, .slice co cm ck] from by rw [hyo, hyn, hys, hcm]] at C0
            rw [← hyo, ← hyn, ← hys, ← hcm] at hf0
            obtain ⟨v0, hv0⟩ : ∃ v, v = g0.ev (fun s => seenF day s F) day := ⟨_, rfl⟩
            rw [← hv0] at C0
            obtain ⟨a', co1, ck1, ha', hsa1, hck1, hf1, hyl1⟩ := HXX.out.get (i := 1) (x := g1) rfl
            cases ha'
            have C1 := Lib.hid (HI.out g1 (by simp) co1 ck1 hck1 hyl1)
            obtain ⟨zo, hzo⟩ : ∃ v, v = g1.op := ⟨_, rfl⟩
            obtain ⟨zn, hzn⟩ : ∃ v, v = g1.n := ⟨_, rfl⟩
            obtain ⟨zs, hzs⟩ : ∃ v, v = g1.nm := ⟨_, rfl⟩
            obtain ⟨dm, hdm⟩ : ∃ v, v = g1.args.length := ⟨_, rfl⟩
            rw [show exV g1 co1 ck1 = .agg #[.int .i64 zo, .int .i64 zn, .string zs, .slice co1 dm ck1] from by rw [hzo, hzn, hzs, hdm]] at C1
            rw [← hzo, ← hzn, ← hzs, ← hdm] at hf1
            obtain ⟨v1, hv1⟩ : ∃ v, v = g1.ev (fun s => seenF day s F) day := ⟨_, rfl⟩
            rw [← hv1] at C1
            rw [Nat.zero_mul, addr_zero] at hf0
            rw [show a.add (1 * 4) = ⟨a.block, a.off + 4, none⟩ from rfl] at hf1
            have hab : a.block < w.heap.size := HSB.out _ hsa0
            have HRV : Hid (RES = evN (fun s => seenF day s F) day 17 xn xs [v0, v1] ∧ wokN P 17 [v0, v1]) := Lib.hid (by
              have h1 := HEV.out
              have h2 := HWK.out
              simp only [List.map] at h1 h2
              rw [← hv0, ← hv1] at h1 h2
              exact ⟨h1, h2⟩)
            have hkm : 2 ≤ k := HKM.out
            clear hv0 hck0 hyl0 hsa0 hyo hyn hys hcm hv1 hck1 hyl1 hsa1 hzo hzn hzs hdm
            have CJ : Hid (∀ W, Below w.heap.size w W → Calls Try.prog 90 #[.agg #[.int .i64 17, .int .i64 xn, .string xs, .slice (some a) 2 k], .agg #[.int .i64 day, .slice fa fm fc], .bool false] W fun e w' => e = .returned (vlV (jnV false v0 v1)) ∧ Below W.heap.size W w') := Lib.hid fun W hW => joined_any false v0 v1 W (Nat.lt_of_lt_of_le hab hW.size) hkm (hf0.stay (hW.block _ hab)) (hf1.stay (hW.block _ hab)) (fun V hV => C0.out V (below_mono hW hV (Nat.le_refl _))) (fun V hV => C1.out V (below_mono hW hV (Nat.le_refl _)))
            obtain ⟨J, hJ⟩ : ∃ J, J = jnV false v0 v1 := ⟨_, rfl⟩
            rw [← hJ] at CJ
            have HR : Hid (RES = J) := Lib.hid (HRV.out.1.trans hJ.symm)
            obtain ⟨jr, jn, jt⟩ := J
            have CJ2 : Hid (∀ W, Below w.heap.size w W → Calls Try.prog 90 #[.agg #[.int .i64 17, .int .i64 xn, .string xs, .slice (some a) 2 k], .agg #[.int .i64 day, .slice fa fm fc], .bool false] W fun e w' => e = .returned (.agg #[.int .i64 jr, .int .i64 jn, .bool jt]) ∧ Below W.heap.size W w') := CJ
            clear hJ CJ hab hf0 hf1 C0 C1
            go_enter Try.func66, Try.ntmps66
            go_upto_region 1 with fail
            obtain ⟨W, hW⟩ : ∃ X, ((w.alloc (.cells #[.int .i64 17, .int .i64 xn, .string xs, .slice (some a) 2 k] 34)).alloc (.cells #[.int .i64 day, .slice fa fm fc] 63)).alloc (.cells #[.int .i64 0, .int .i64 0, .bool false] 73) = X := ⟨_, rfl⟩
            obtain ⟨g1, b1, b2, b3⟩ := GA.out W hW
            obtain ⟨z, hz⟩ : ∃ z, z = w.heap.size := ⟨_, rfl⟩
            rw [hW, ← hz]
            rw [← hz] at b1 b2 b3
            have HE : Hid (EvB z #[.int .i64 17, .int .i64 xn, .string xs, .slice (some a) 2 k] #[.int .i64 day, .slice fa fm fc] w W) := Lib.hid ⟨g1, b1, b2, b3, by omega⟩
            clear hW b1 b2 b3 g1 GA hz
            obtain ⟨c0, c1, c2, c3⟩ := quad HE.out.ex
            obtain ⟨e0, e1⟩ := duo HE.out.en
            go_wp2_with (go_at_call 90; (with_reducible refine (CJ2.out _ HE.out.bel).mono ?_); rintro e w4 ⟨rfl, hb⟩; have HB4 := Lib.hid hb; have HX4 := Lib.hid ((hb.block _ (lt_of_heap HE.out.va)).trans HE.out.va); obtain ⟨n0', n1', n2'⟩ := trio HX4.out; have p0 : w4.frozen? ⟨z + 1 + 1, 0, none⟩ = false := free_blk HX4.out 0; have p1 : w4.frozen? ⟨z + 1 + 1, 1, none⟩ = false := free_blk HX4.out 1; have p2 : w4.frozen? ⟨z + 1 + 1, 2, none⟩ = false := free_blk HX4.out 2; clear hb)
            obtain ⟨W10, hW10⟩ : ∃ X, (((w4.setCell ⟨z + 1 + 1, 0, none⟩ (.int .i64 jr)).setCell ⟨z + 1 + 1, 1, none⟩ (.int .i64 jn)).setCell ⟨z + 1 + 1, 2, none⟩ (.bool jt)) = X := ⟨_, rfl⟩
            obtain ⟨k9, _, _, x9⟩ := three_set w4 (z + 1 + 1) (.int .i64 jr) (.int .i64 jn) (.bool jt) _ _ ⟨_, _, _, rfl⟩ HX4.out W10 hW10
            rw [hW10]
            clear n0' n1' n2' p0 p1 p2
            obtain ⟨d0, d1, d2⟩ := trio x9
            exact bodyPost_ret (v := .agg #[.int .i64 jr, .int .i64 jn, .bool jt]) (by simp [results, Try.results66, go_sem, d0, d1, d2]) rfl ⟨by rw [HR.out], ((HE.out.bel).trans (HB4.out.mono HE.out.bel.size)).trans (k9.mono (by have := HE.out.le; omega))⟩
          · have e17 : (xo == 17) = false := by simp [q17]
            by_cases q18 : xo = 18
            · subst q18
              have hm3 : m = 2 := by
                have h1 : kidX 18 = 2 := by decide
                omega
              subst hm3
              clear hlen
              obtain ⟨g0, g1, hu⟩ : ∃ g0 g1, l = [g0, g1] := by
                have h3 := HM.out
                match l, h3 with
                | [a0, a1], _ => exact ⟨a0, a1, rfl⟩
              subst hu
              obtain ⟨a, co, ck, rfl, hsa0, hck0, hf0, hyl0⟩ := HXX.out.get (i := 0) (x := g0) rfl
              have C0 := Lib.hid (HI.out g0 (by simp) co ck hck0 hyl0)
              obtain ⟨yo, hyo⟩ : ∃ v, v = g0.op := ⟨_, rfl⟩
              obtain ⟨yn, hyn⟩ : ∃ v, v = g0.n := ⟨_, rfl⟩
              obtain ⟨ys, hys⟩ : ∃ v, v = g0.nm := ⟨_, rfl⟩
              obtain ⟨cm, hcm⟩ : ∃ v, v = g0.args.length := ⟨_, rfl⟩
              rw [show exV g0 co ck = .agg #[.int .i64 yo, .int .i64 yn, .string ys, .slice co cm ck] from by rw [hyo, hyn, hys, hcm]] at C0
              rw [← hyo, ← hyn, ← hys, ← hcm] at hf0
              obtain ⟨v0, hv0⟩ : ∃ v, v = g0.ev (fun s => seenF day s F) day := ⟨_, rfl⟩
              rw [← hv0] at C0
              obtain ⟨a', co1, ck1, ha', hsa1, hck1, hf1, hyl1⟩ := HXX.out.get (i := 1) (x := g1) rfl
              cases ha'
              have C1 := Lib.hid (HI.out g1 (by simp) co1 ck1 hck1 hyl1)
              obtain ⟨zo, hzo⟩ : ∃ v, v = g1.op := ⟨_, rfl⟩
              obtain ⟨zn, hzn⟩ : ∃ v, v = g1.n := ⟨_, rfl⟩
              obtain ⟨zs, hzs⟩ : ∃ v, v = g1.nm := ⟨_, rfl⟩
              obtain ⟨dm, hdm⟩ : ∃ v, v = g1.args.length := ⟨_, rfl⟩
              rw [show exV g1 co1 ck1 = .agg #[.int .i64 zo, .int .i64 zn, .string zs, .slice co1 dm ck1] from by rw [hzo, hzn, hzs, hdm]] at C1
              rw [← hzo, ← hzn, ← hzs, ← hdm] at hf1
              obtain ⟨v1, hv1⟩ : ∃ v, v = g1.ev (fun s => seenF day s F) day := ⟨_, rfl⟩
              rw [← hv1] at C1
              rw [Nat.zero_mul, addr_zero] at hf0
              rw [show a.add (1 * 4) = ⟨a.block, a.off + 4, none⟩ from rfl] at hf1
              have hab : a.block < w.heap.size := HSB.out _ hsa0
              have HRV : Hid (RES = evN (fun s => seenF day s F) day 18 xn xs [v0, v1] ∧ wokN P 18 [v0, v1]) := Lib.hid (by
                have h1 := HEV.out
                have h2 := HWK.out
                simp only [List.map] at h1 h2
                rw [← hv0, ← hv1] at h1 h2
                exact ⟨h1, h2⟩)
              have hkm : 2 ≤ k := HKM.out
              clear hv0 hck0 hyl0 hsa0 hyo hyn hys hcm hv1 hck1 hyl1 hsa1 hzo hzn hzs hdm
              have CJ : Hid (∀ W, Below w.heap.size w W → Calls Try.prog 90 #[.agg #[.int .i64 18, .int .i64 xn, .string xs, .slice (some a) 2 k], .agg #[.int .i64 day, .slice fa fm fc], .bool true] W fun e w' => e = .returned (vlV (jnV true v0 v1)) ∧ Below W.heap.size W w') := Lib.hid fun W hW => joined_any true v0 v1 W (Nat.lt_of_lt_of_le hab hW.size) hkm (hf0.stay (hW.block _ hab)) (hf1.stay (hW.block _ hab)) (fun V hV => C0.out V (below_mono hW hV (Nat.le_refl _))) (fun V hV => C1.out V (below_mono hW hV (Nat.le_refl _)))
              obtain ⟨J, hJ⟩ : ∃ J, J = jnV true v0 v1 := ⟨_, rfl⟩
              rw [← hJ] at CJ
              have HR : Hid (RES = J) := Lib.hid (HRV.out.1.trans hJ.symm)
              obtain ⟨jr, jn, jt⟩ := J
              have CJ2 : Hid (∀ W, Below w.heap.size w W → Calls Try.prog 90 #[.agg #[.int .i64 18, .int .i64 xn, .string xs, .slice (some a) 2 k], .agg #[.int .i64 day, .slice fa fm fc], .bool true] W fun e w' => e = .returned (.agg #[.int .i64 jr, .int .i64 jn, .bool jt]) ∧ Below W.heap.size W w') := CJ
              clear hJ CJ hab hf0 hf1 C0 C1
              go_enter Try.func66, Try.ntmps66
              go_upto_region 1 with fail
              obtain ⟨W, hW⟩ : ∃ X, ((w.alloc (.cells #[.int .i64 18, .int .i64 xn, .string xs, .slice (some a) 2 k] 34)).alloc (.cells #[.int .i64 day, .slice fa fm fc] 63)).alloc (.cells #[.int .i64 0, .int .i64 0, .bool false] 73) = X := ⟨_, rfl⟩
              obtain ⟨g1, b1, b2, b3⟩ := GA.out W hW
              obtain ⟨z, hz⟩ : ∃ z, z = w.heap.size := ⟨_, rfl⟩
              rw [hW, ← hz]
              rw [← hz] at b1 b2 b3
              have HE : Hid (EvB z #[.int .i64 18, .int .i64 xn, .string xs, .slice (some a) 2 k] #[.int .i64 day, .slice fa fm fc] w W) := Lib.hid ⟨g1, b1, b2, b3, by omega⟩
              clear hW b1 b2 b3 g1 GA hz
              obtain ⟨c0, c1, c2, c3⟩ := quad HE.out.ex
              obtain ⟨e0, e1⟩ := duo HE.out.en
              go_wp2_with (go_at_call 90; (with_reducible refine (CJ2.out _ HE.out.bel).mono ?_); rintro e w4 ⟨rfl, hb⟩; have HB4 := Lib.hid hb; have HX4 := Lib.hid ((hb.block _ (lt_of_heap HE.out.va)).trans HE.out.va); obtain ⟨n0', n1', n2'⟩ := trio HX4.out; have p0 : w4.frozen? ⟨z + 1 + 1, 0, none⟩ = false := free_blk HX4.out 0; have p1 : w4.frozen? ⟨z + 1 + 1, 1, none⟩ = false := free_blk HX4.out 1; have p2 : w4.frozen? ⟨z + 1 + 1, 2, none⟩ = false := free_blk HX4.out 2; clear hb)
              obtain ⟨W10, hW10⟩ : ∃ X, (((w4.setCell ⟨z + 1 + 1, 0, none⟩ (.int .i64 jr)).setCell ⟨z + 1 + 1, 1, none⟩ (.int .i64 jn)).setCell ⟨z + 1 + 1, 2, none⟩ (.bool jt)) = X := ⟨_, rfl⟩
              obtain ⟨k9, _, _, x9⟩ := three_set w4 (z + 1 + 1) (.int .i64 jr) (.int .i64 jn) (.bool jt) _ _ ⟨_, _, _, rfl⟩ HX4.out W10 hW10
              rw [hW10]
              clear n0' n1' n2' p0 p1 p2
              obtain ⟨d0, d1, d2⟩ := trio x9
              exact bodyPost_ret (v := .agg #[.int .i64 jr, .int .i64 jn, .bool jt]) (by simp [results, Try.results66, go_sem, d0, d1, d2]) rfl ⟨by rw [HR.out], ((HE.out.bel).trans (HB4.out.mono HE.out.bel.size)).trans (k9.mono (by have := HE.out.le; omega))⟩
            · have e18 : (xo == 18) = false := by simp [q18]
              by_cases q21 : xo = 21
              · subst q21
                have hm3 : m = 3 := by
                  have h1 : kidX 21 = 3 := by decide
                  omega
                subst hm3
                clear hlen
                obtain ⟨g0, g1, g2, hu⟩ : ∃ g0 g1 g2, l = [g0, g1, g2] := by
                  have h3 := HM.out
                  match l, h3 with
                  | [a0, a1, a2], _ => exact ⟨a0, a1, a2, rfl⟩
                subst hu
                obtain ⟨a, co, ck, rfl, hsa0, hck0, hf0, hyl0⟩ := HXX.out.get (i := 0) (x := g0) rfl
                have C0 := Lib.hid (HI.out g0 (by simp) co ck hck0 hyl0)
                obtain ⟨yo, hyo⟩ : ∃ v, v = g0.op := ⟨_, rfl⟩
                obtain ⟨yn, hyn⟩ : ∃ v, v = g0.n := ⟨_, rfl⟩
                obtain ⟨ys, hys⟩ : ∃ v, v = g0.nm := ⟨_, rfl⟩
                obtain ⟨cm, hcm⟩ : ∃ v, v = g0.args.length := ⟨_, rfl⟩
                rw [show exV g0 co ck = .agg #[.int .i64 yo, .int .i64 yn, .string ys, .slice co cm ck] from by rw [hyo, hyn, hys, hcm]] at C0
                rw [← hyo, ← hyn, ← hys, ← hcm] at hf0
                obtain ⟨v0, hv0⟩ : ∃ v, v = g0.ev (fun s => seenF day s F) day := ⟨_, rfl⟩
                rw [← hv0] at C0
                obtain ⟨a', co1, ck1, ha', hsa1, hck1, hf1, hyl1⟩ := HXX.out.get (i := 1) (x := g1) rfl
                cases ha'
                have C1 := Lib.hid (HI.out g1 (by simp) co1 ck1 hck1 hyl1)
                obtain ⟨zo, hzo⟩ : ∃ v, v = g1.op := ⟨_, rfl⟩
                obtain ⟨zn, hzn⟩ : ∃ v, v = g1.n := ⟨_, rfl⟩
                obtain ⟨zs, hzs⟩ : ∃ v, v = g1.nm := ⟨_, rfl⟩
                obtain ⟨dm, hdm⟩ : ∃ v, v = g1.args.length := ⟨_, rfl⟩
                rw [show exV g1 co1 ck1 = .agg #[.int .i64 zo, .int .i64 zn, .string zs, .slice co1 dm ck1] from by rw [hzo, hzn, hzs, hdm]] at C1
                rw [← hzo, ← hzn, ← hzs, ← hdm] at hf1
                obtain ⟨v1, hv1⟩ : ∃ v, v = g1.ev (fun s => seenF day s F) day := ⟨_, rfl⟩
                rw [← hv1] at C1
                obtain ⟨a', co2, ck2, ha', hsa2, hck2, hf2, hyl2⟩ := HXX.out.get (i := 2) (x := g2) rfl
                cases ha'
                have C2 := Lib.hid (HI.out g2 (by simp) co2 ck2 hck2 hyl2)
                obtain ⟨uo, huo⟩ : ∃ v, v = g2.op := ⟨_, rfl⟩
                obtain ⟨un, hun⟩ : ∃ v, v = g2.n := ⟨_, rfl⟩
                obtain ⟨us, hus⟩ : ∃ v, v = g2.nm := ⟨_, rfl⟩
                obtain ⟨um, hum⟩ : ∃ v, v = g2.args.length := ⟨_, rfl⟩
                rw [show exV g2 co2 ck2 = .agg #[.int .i64 uo, .int .i64 un, .string us, .slice co2 um ck2] from by rw [huo, hun, hus, hum]] at C2
                rw [← huo, ← hun, ← hus, ← hum] at hf2
                obtain ⟨v2, hv2⟩ : ∃ v, v = g2.ev (fun s => seenF day s F) day := ⟨_, rfl⟩
                rw [← hv2] at C2
                rw [Nat.zero_mul, addr_zero] at hf0
                rw [show a.add (1 * 4) = ⟨a.block, a.off + 4, none⟩ from rfl] at hf1
                rw [show a.add (2 * 4) = ⟨a.block, a.off + 8, none⟩ from rfl] at hf2
                have hab : a.block < w.heap.size := HSB.out _ hsa0
                have HRV : Hid (RES = evN (fun s => seenF day s F) day 21 xn xs [v0, v1, v2] ∧ wokN P 21 [v0, v1, v2]) := Lib.hid (by
                  have h1 := HEV.out
                  have h2 := HWK.out
                  simp only [List.map] at h1 h2
                  rw [← hv0, ← hv1, ← hv2] at h1 h2
                  exact ⟨h1, h2⟩)
                have hkm : 3 ≤ k := HKM.out
                clear hv0 hck0 hyl0 hsa0 hyo hyn hys hcm hv1 hck1 hyl1 hsa1 hzo hzn hzs hdm hv2 hck2 hyl2 hsa2 huo hun hus hum
                have CJ : Hid (∀ W, Below w.heap.size w W → Calls Try.prog 91 #[.agg #[.int .i64 21, .int .i64 xn, .string xs, .slice (some a) 3 k], .agg #[.int .i64 day, .slice fa fm fc]] W fun e w' => e = .returned (vlV (chV v0 v1 v2)) ∧ Below W.heap.size W w') := Lib.hid fun W hW => chosen_any v0 v1 v2 W (Nat.lt_of_lt_of_le hab hW.size) (hf0.stay (hW.block _ hab)) (hf1.stay (hW.block _ hab)) (hf2.stay (hW.block _ hab)) (fun V hV => C0.out V (below_mono hW hV (Nat.le_refl _))) (fun V hV => C1.out V (below_mono hW hV (Nat.le_refl _))) (fun V hV => C2.out V (below_mono hW hV (Nat.le_refl _)))
                obtain ⟨J, hJ⟩ : ∃ J, J = chV v0 v1 v2 := ⟨_, rfl⟩
                rw [← hJ] at CJ
                have HR : Hid (RES = J) := Lib.hid (HRV.out.1.trans hJ.symm)
                obtain ⟨jr, jn, jt⟩ := J
                have CJ2 : Hid (∀ W, Below w.heap.size w W → Calls Try.prog 91 #[.agg #[.int .i64 21, .int .i64 xn, .string xs, .slice (some a) 3 k], .agg #[.int .i64 day, .slice fa fm fc]] W fun e w' => e = .returned (.agg #[.int .i64 jr, .int .i64 jn, .bool jt]) ∧ Below W.heap.size W w') := CJ
                clear hJ CJ hab hf0 hf1 hf2 C0 C1 C2
                go_enter Try.func66, Try.ntmps66
                go_upto_region 1 with fail
                obtain ⟨W, hW⟩ : ∃ X, ((w.alloc (.cells #[.int .i64 21, .int .i64 xn, .string xs, .slice (some a) 3 k] 34)).alloc (.cells #[.int .i64 day, .slice fa fm fc] 63)).alloc (.cells #[.int .i64 0, .int .i64 0, .bool false] 73) = X := ⟨_, rfl⟩
                obtain ⟨g1, b1, b2, b3⟩ := GA.out W hW
                obtain ⟨z, hz⟩ : ∃ z, z = w.heap.size := ⟨_, rfl⟩
                rw [hW, ← hz]
                rw [← hz] at b1 b2 b3
                have HE : Hid (EvB z #[.int .i64 21, .int .i64 xn, .string xs, .slice (some a) 3 k] #[.int .i64 day, .slice fa fm fc] w W) := Lib.hid ⟨g1, b1, b2, b3, by omega⟩
                clear hW b1 b2 b3 g1 GA hz
                obtain ⟨c0, c1, c2, c3⟩ := quad HE.out.ex
                obtain ⟨e0, e1⟩ := duo HE.out.en
                go_wp2_with (go_at_call 91; (with_reducible refine (CJ2.out _ HE.out.bel).mono ?_); rintro e w4 ⟨rfl, hb⟩; have HB4 := Lib.hid hb; have HX4 := Lib.hid ((hb.block _ (lt_of_heap HE.out.va)).trans HE.out.va); obtain ⟨n0', n1', n2'⟩ := trio HX4.out; have p0 : w4.frozen? ⟨z + 1 + 1, 0, none⟩ = false := free_blk HX4.out 0; have p1 : w4.frozen? ⟨z + 1 + 1, 1, none⟩ = false := free_blk HX4.out 1; have p2 : w4.frozen? ⟨z + 1 + 1, 2, none⟩ = false := free_blk HX4.out 2; clear hb)
                obtain ⟨W10, hW10⟩ : ∃ X, (((w4.setCell ⟨z + 1 + 1, 0, none⟩ (.int .i64 jr)).setCell ⟨z + 1 + 1, 1, none⟩ (.int .i64 jn)).setCell ⟨z + 1 + 1, 2, none⟩ (.bool jt)) = X := ⟨_, rfl⟩
                obtain ⟨k9, _, _, x9⟩ := three_set w4 (z + 1 + 1) (.int .i64 jr) (.int .i64 jn) (.bool jt) _ _ ⟨_, _, _, rfl⟩ HX4.out W10 hW10
                rw [hW10]
                clear n0' n1' n2' p0 p1 p2
                obtain ⟨d0, d1, d2⟩ := trio x9
                exact bodyPost_ret (v := .agg #[.int .i64 jr, .int .i64 jn, .bool jt]) (by simp [results, Try.results66, go_sem, d0, d1, d2]) rfl ⟨by rw [HR.out], ((HE.out.bel).trans (HB4.out.mono HE.out.bel.size)).trans (k9.mono (by have := HE.out.le; omega))⟩
              · have e21 : (xo == 21) = false := by simp [q21]
                by_cases qn : 19 ≤ xo
                · have q2 : xo = 19 ∨ xo = 20 := by omega
                  have hm3 : m = 1 := by
                    have h1 := hlen
                    unfold kidX at h1
                    (repeat' split at h1) <;> omega
                  subst hm3
                  clear hlen
                  obtain ⟨g0, hu⟩ : ∃ g0, l = [g0] := by
                    have h3 := HM.out
                    match l, h3 with
                    | [a0], _ => exact ⟨a0, rfl⟩
                  subst hu
                  obtain ⟨a, co, ck, rfl, hsa0, hck0, hf0, hyl0⟩ := HXX.out.get (i := 0) (x := g0) rfl
                  have C0 := Lib.hid (HI.out g0 (by simp) co ck hck0 hyl0)
                  obtain ⟨yo, hyo⟩ : ∃ v, v = g0.op := ⟨_, rfl⟩
                  obtain ⟨yn, hyn⟩ : ∃ v, v = g0.n := ⟨_, rfl⟩
                  obtain ⟨ys, hys⟩ : ∃ v, v = g0.nm := ⟨_, rfl⟩
                  obtain ⟨cm, hcm⟩ : ∃ v, v = g0.args.length := ⟨_, rfl⟩
                  rw [show exV g0 co ck = .agg #[.int .i64 yo, .int .i64 yn, .string ys, .slice co cm ck] from by rw [hyo, hyn, hys, hcm]] at C0
                  rw [← hyo, ← hyn, ← hys, ← hcm] at hf0
                  obtain ⟨v0, hv0⟩ : ∃ v, v = g0.ev (fun s => seenF day s F) day := ⟨_, rfl⟩
                  rw [← hv0] at C0
                  rw [Nat.zero_mul, addr_zero] at hf0
                  have hab : a.block < w.heap.size := HSB.out _ hsa0
                  have HRV : Hid (RES = evN (fun s => seenF day s F) day xo xn xs [v0] ∧ wokN P xo [v0]) := Lib.hid (by
                    have h1 := HEV.out
                    have h2 := HWK.out
                    simp only [List.map] at h1 h2
                    rw [← hv0] at h1 h2
                    exact ⟨h1, h2⟩)
                  have hkm : 1 ≤ k := HKM.out
                  clear hv0 hck0 hyl0 hsa0 hyo hyn hys hcm
                  obtain ⟨r0, hr0⟩ : ∃ r, r = v0.kind := ⟨_, rfl⟩
                  obtain ⟨n0, hn0⟩ : ∃ r, r = v0.n := ⟨_, rfl⟩
                  obtain ⟨t0, ht0⟩ : ∃ r, r = v0.b := ⟨_, rfl⟩
                  have HV0 : Hid (v0 = ⟨r0, n0, t0⟩) := Lib.hid (by rw [hr0, hn0, ht0])
                  rw [show vlV v0 = .agg #[.int .i64 r0, .int .i64 n0, .bool t0] from by rw [hr0, hn0, ht0]] at C0
                  clear hr0 hn0 ht0
                  have HC0 : Hid (∀ V, Below w.heap.size w V → FourX V a (.int .i64 yo) (.int .i64 yn) (.string ys) (.slice co cm ck)) := Lib.hid fun V hV => hf0.stay (hV.block _ hab)
                  have HAB := Lib.hid hab
                  clear hab hf0 
                  go_enter Try.func66, Try.ntmps66
                  go_upto_region 1 with fail
                  obtain ⟨W, hW⟩ : ∃ X, ((w.alloc (.cells #[.int .i64 xo, .int .i64 xn, .string xs, .slice (some a) 1 k] 34)).alloc (.cells #[.int .i64 day, .slice fa fm fc] 63)).alloc (.cells #[.int .i64 0, .int .i64 0, .bool false] 73) = X := ⟨_, rfl⟩
                  obtain ⟨g1, b1, b2, b3⟩ := GA.out W hW
                  obtain ⟨z, hz⟩ : ∃ z, z = w.heap.size := ⟨_, rfl⟩
                  rw [hW, ← hz]
                  rw [← hz] at b1 b2 b3
                  have HE : Hid (EvB z #[.int .i64 xo, .int .i64 xn, .string xs, .slice (some a) 1 k] #[.int .i64 day, .slice fa fm fc] w W) := Lib.hid ⟨g1, b1, b2, b3, by omega⟩
                  clear hW b1 b2 b3 g1 GA hz
                  obtain ⟨c0, c1, c2, c3⟩ := quad HE.out.ex
                  go_upto_region 18 with fail
                  clear c0 c1 c2 c3
                  have c3 : W.cell? ⟨z, 3, none⟩ = some (.slice (some a) 1 k) := cell_blk HE.out.ex 3
                  obtain ⟨e0, e1⟩ := duo HE.out.en
                  obtain ⟨y0, y1, y2, y3⟩ := HC0.out W HE.out.bel
                  go_cut [7] (fun p wx => ∃ u : Nat, p = .pointer (some ⟨u, 0, none⟩) ∧ Hid (Below W.heap.size W wx ∧ W.heap.size ≤ u ∧ wx.heap[u]? = some (.cells #[.int .i64 r0, .int .i64 n0, .bool t0] 73 (0, 0))))
                  case first =>
                    have HBA : Hid (Below W.heap.size W (W.alloc (.cells #[.int .i64 0, .int .i64 0, .bool false] 73)).drew ∧ (W.alloc (.cells #[.int .i64 0, .int .i64 0, .bool false] 73)).drew.heap[W.heap.size]? = some (.cells #[.int .i64 0, .int .i64 0, .bool false] 73 (0, 0))) := Lib.hid ⟨((Below.refl _ _).alloc (Nat.le_refl _) _).drew, heap_alloc_new _ _⟩
                    have HBD : Hid (Below W.heap.size W W.drew) := Lib.hid (Below.refl _ _).drew
                    have HSF : Hid (∀ V, Below W.heap.size W V → V.cell? ⟨z, 3, none⟩ = some (.slice (some a) 1 k) ∧ V.cell? ⟨z + 1, 0, none⟩ = some (.int .i64 day) ∧ V.cell? ⟨z + 1, 1, none⟩ = some (.slice fa fm fc) ∧ V.cell? a = some (.int .i64 yo) ∧ V.cell? ⟨a.block, a.off + 1, none⟩ = some (.int .i64 yn) ∧ V.cell? ⟨a.block, a.off + 2, none⟩ = some (.string ys) ∧ V.cell? ⟨a.block, a.off + 3, none⟩ = some (.slice co cm ck)) := Lib.hid fun V hV => ⟨cell_blk (HE.out.next hV).ex 3, (duo (HE.out.next hV).en).1, (duo (HE.out.next hV).en).2, (HC0.out V (HE.out.next hV).bel).1, (HC0.out V (HE.out.next hV).bel).2.1, (HC0.out V (HE.out.next hV).bel).2.2.1, (HC0.out V (HE.out.next hV).bel).2.2.2⟩
                    go_region_held3 (fun w' => w'.cell? ⟨z, 3, none⟩ = some (.slice (some a) 1 k) ∧ w'.cell? ⟨z + 1, 0, none⟩ = some (.int .i64 day) ∧ w'.cell? ⟨z + 1, 1, none⟩ = some (.slice fa fm fc) ∧ w'.cell? a = some (.int .i64 yo) ∧ w'.cell? ⟨a.block, a.off + 1, none⟩ = some (.int .i64 yn) ∧ w'.cell? ⟨a.block, a.off + 2, none⟩ = some (.string ys) ∧ w'.cell? ⟨a.block, a.off + 3, none⟩ = some (.slice co cm ck))
                      (first | exact HSF.out _ HB4.out | exact HSF.out _ (below_mono HB4.out ((Below.refl _ _).alloc (Nat.le_refl _) _) (Nat.le_refl _)) | exact HSF.out _ (((HB4.out.setCell (p := ⟨W.heap.size, 0, none⟩) (Nat.le_refl _) _).setCell (p := ⟨W.heap.size, 1, none⟩) (Nat.le_refl _) _).setCell (p := ⟨W.heap.size, 2, none⟩) (Nat.le_refl _) _) | (go_keep; done))
                      (first
                        | (go_at_call 66; (with_reducible refine (C0.out _ (HE.out.next HBD.out).bel).mono ?_); rintro e w4 ⟨rfl, hb⟩; have HB4 := Lib.hid (HBD.out.trans hb); clear hb; obtain ⟨⟨n0', n1', n2'⟩, p0, p1, p2⟩ := three_zero w4 (.int .i64 0) (.int .i64 0) (.bool false) 73)
                        | (go_at_call 66; (with_reducible refine (C0.out _ (HE.out.next HBA.out.1).bel).mono ?_); rintro e w4 ⟨rfl, hb⟩; have HB4 := Lib.hid (HBA.out.1.trans (hb.mono (by simp))); have HX4 := Lib.hid ((hb.block _ (by simp)).trans HBA.out.2); obtain ⟨n0', n1', n2'⟩ := trio HX4.out; have p0 : w4.frozen? ⟨W.heap.size, 0, none⟩ = false := free_blk HX4.out 0; have p1 : w4.frozen? ⟨W.heap.size, 1, none⟩ = false := free_blk HX4.out 1; have p2 : w4.frozen? ⟨W.heap.size, 2, none⟩ = false := free_blk HX4.out 2; clear hb))
                    · go_wp2_with fail
                      go_meet
                      exact ⟨w4.heap.size, rfl, Lib.hid ⟨below_mono HB4.out ((Below.refl _ _).alloc (Nat.le_refl _) _) (Nat.le_refl _), HB4.out.size, heap_alloc_new _ _⟩⟩
                    · go_wp2_with fail
                      go_meet
                      obtain ⟨k9, _, _, x9⟩ := three_set w4 W.heap.size (.int .i64 r0) (.int .i64 n0) (.bool t0) _ _ ⟨_, _, _, rfl⟩ HX4.out _ rfl
                      exact ⟨W.heap.size, rfl, Lib.hid ⟨HB4.out.trans k9, Nat.le_refl _, x9⟩⟩
                  case rest =>
                    obtain ⟨u, rfl, HU⟩ := hcut
                    clear c3 e0 e1 y0 y1 y2 y3
                    have HE2 := Lib.hid (HE.out.next HU.out.1)
                    obtain ⟨k0, k1, k2⟩ := trio HU.out.2.2
                    have hzu : z + 1 + 1 < u := by have h1 := lt_of_heap HE.out.va; have h2 := HU.out.2.1; omega
                    obtain ⟨⟨n0', n1', n2'⟩, p0, p1, p2⟩ := three_zero wc (.int .i64 0) (.int .i64 0) (.bool false) 73
                    go_upto_region 20 with fail
                    clear k0 k1 k2 n0' n1' n2' p0 p1 p2
                    obtain ⟨W5, hW5⟩ : ∃ X, wc.alloc (.cells #[.int .i64 r0, .int .i64 n0, .bool t0] 73) = X := ⟨_, rfl⟩
                    obtain ⟨k5, b5, s5⟩ := three_made _ _ _ _ wc W5 hW5
                    obtain ⟨u8, hu8⟩ : ∃ u8, u8 = wc.heap.size := ⟨_, rfl⟩
                    rw [hW5, ← hu8]
                    rw [← hu8] at b5
                    have huu : u < u8 := by have := lt_of_heap HU.out.2.2; omega
                    have HE5 := Lib.hid (HE2.out.next k5)
                    have HXU := Lib.hid ((k5.block u (lt_of_heap HU.out.2.2)).trans HU.out.2.2)
                    have HXB := Lib.hid b5
                    obtain ⟨c0, c1, c2, c3⟩ := quad HE5.out.ex
                    clear hW5 k5 b5 s5 hu8
                    have HR0 : Hid (RES = plV xo ⟨r0, n0, t0⟩ ⟨r0, n0, t0⟩) := Lib.hid (by rw [HRV.out.1, HV0.out]; unfold evN; rw [if_neg (by omega), if_neg (by omega), if_neg (by omega)])
                    have HPW : Hid (xo = 20 → P xo n0 n0) := Lib.hid (by have h := HRV.out.2; rw [HV0.out] at h; exact h)
                    go_upto_region 22 with fail
                    clear c0 c1 c2 c3
                    have HXV := HXB
                    obtain ⟨k0, k1, k2⟩ := trio HXU.out
                    obtain ⟨l0, l1, l2⟩ := trio HXV.out
                    obtain ⟨c0, c1, c2, c3⟩ := quad HE5.out.ex
                    by_cases g0 : r0 = 3
                    · have f0 : (r0 == 3) = true := by simp [g0]
                      have HR : Hid (RES = brkV) := Lib.hid (by rw [HR0.out]; unfold plV; rw [if_pos (.inl g0)])
                      clear g0
                      go_upto_region 23 with fail
                      obtain ⟨q0', q1', q2'⟩ := trio HE5.out.va
                      have p0 : W5.frozen? ⟨z + 1 + 1, 0, none⟩ = false := free_blk HE5.out.va 0
                      have p1 : W5.frozen? ⟨z + 1 + 1, 1, none⟩ = false := free_blk HE5.out.va 1
                      have p2 : W5.frozen? ⟨z + 1 + 1, 2, none⟩ = false := free_blk HE5.out.va 2
                      go_wp2_with fail
                      have HS9 := Lib.hid (three_set W5 (z + 1 + 1) (.int .i64 3) (.int .i64 0) (.bool false) _ _ ⟨_, _, _, rfl⟩ HE5.out.va)
                      clear q0' q1' q2' p0 p1 p2
                      obtain ⟨W9, hW9⟩ : ∃ X, (((W5.setCell ⟨z + 1 + 1, 0, none⟩ (.int .i64 3)).setCell ⟨z + 1 + 1, 1, none⟩ (.int .i64 0)).setCell ⟨z + 1 + 1, 2, none⟩ (.bool false)) = X := ⟨_, rfl⟩
                      obtain ⟨k9, _, _, x9⟩ := HS9.out W9 hW9
                      rw [hW9]
                      obtain ⟨d0, d1, d2⟩ := trio x9
                      exact bodyPost_ret (v := .agg #[.int .i64 3, .int .i64 0, .bool false]) (by simp [results, Try.results66, go_sem, d0, d1, d2]) rfl ⟨by rw [HR.out]; rfl, HE5.out.bel.trans (k9.mono (by have := HE5.out.le; omega))⟩
                    · have f0 : (r0 == 3) = false := by simp [g0]
                      by_cases g2 : r0 = 0
                      · have f2 : (r0 == 0) = true := by simp [g2]
                        have HR : Hid (RES = unkV) := Lib.hid (by rw [HR0.out]; unfold plV; rw [if_neg (fun h => h.elim g0 g0), if_pos (.inl g2)])
                        clear g2
                        go_upto_region 25 with fail
                        obtain ⟨q0', q1', q2'⟩ := trio HE5.out.va
                        have p0 : W5.frozen? ⟨z + 1 + 1, 0, none⟩ = false := free_blk HE5.out.va 0
                        have p1 : W5.frozen? ⟨z + 1 + 1, 1, none⟩ = false := free_blk HE5.out.va 1
                        have p2 : W5.frozen? ⟨z + 1 + 1, 2, none⟩ = false := free_blk HE5.out.va 2
                        go_wp2_with fail
                        have HS9 := Lib.hid (three_set W5 (z + 1 + 1) (.int .i64 0) (.int .i64 0) (.bool false) _ _ ⟨_, _, _, rfl⟩ HE5.out.va)
                        clear q0' q1' q2' p0 p1 p2
                        obtain ⟨W9, hW9⟩ : ∃ X, (((W5.setCell ⟨z + 1 + 1, 0, none⟩ (.int .i64 0)).setCell ⟨z + 1 + 1, 1, none⟩ (.int .i64 0)).setCell ⟨z + 1 + 1, 2, none⟩ (.bool false)) = X := ⟨_, rfl⟩
                        obtain ⟨k9, _, _, x9⟩ := HS9.out W9 hW9
                        rw [hW9]
                        obtain ⟨d0, d1, d2⟩ := trio x9
                        exact bodyPost_ret (v := .agg #[.int .i64 0, .int .i64 0, .bool false]) (by simp [results, Try.results66, go_sem, d0, d1, d2]) rfl ⟨by rw [HR.out]; rfl, HE5.out.bel.trans (k9.mono (by have := HE5.out.le; omega))⟩
                      · have f2 : (r0 == 0) = false := by simp [g2]
                        by_cases q19 : xo = 19
                        · subst q19
                          have HR : Hid (RES = truV (!t0)) := Lib.hid (by rw [HR0.out]; unfold plV; rw [if_neg (fun h => h.elim g0 g0), if_neg (fun h => h.elim g2 g2)]; rw [if_pos rfl])
                          obtain ⟨nt, hnt⟩ : ∃ v, v = (!t0) := ⟨_, rfl⟩
                          have HNT := Lib.hid hnt
                          rw [← hnt] at HR
                          have CT2 := Lib.hid (CT.out nt)
                          rw [hnt] at CT2
                          clear hnt
                          go_wp2_with (go_at_call 92; (with_reducible refine (CT2.out _).mono ?_); rintro e w4 ⟨rfl, hb⟩; have HB4 := Lib.hid hb; have HX4 := Lib.hid ((hb.block _ (lt_of_heap HE5.out.va)).trans HE5.out.va); obtain ⟨n0', n1', n2'⟩ := trio HX4.out; have p0 : w4.frozen? ⟨z + 1 + 1, 0, none⟩ = false := free_blk HX4.out 0; have p1 : w4.frozen? ⟨z + 1 + 1, 1, none⟩ = false := free_blk HX4.out 1; have p2 : w4.frozen? ⟨z + 1 + 1, 2, none⟩ = false := free_blk HX4.out 2; clear hb)
                          obtain ⟨W10, hW10⟩ : ∃ X, (((w4.setCell ⟨z + 1 + 1, 0, none⟩ (.int .i64 2)).setCell ⟨z + 1 + 1, 1, none⟩ (.int .i64 0)).setCell ⟨z + 1 + 1, 2, none⟩ (.bool (!t0))) = X := ⟨_, rfl⟩
                          obtain ⟨k9, _, _, x9⟩ := three_set w4 (z + 1 + 1) (.int .i64 2) (.int .i64 0) (.bool (!t0)) _ _ ⟨_, _, _, rfl⟩ HX4.out W10 hW10
                          rw [hW10]
                          clear n0' n1' n2' p0 p1 p2
                          obtain ⟨d0, d1, d2⟩ := trio x9
                          exact bodyPost_ret (v := .agg #[.int .i64 2, .int .i64 0, .bool (!t0)]) (by simp [results, Try.results66, go_sem, d0, d1, d2]) rfl ⟨by rw [HR.out, HNT.out]; rfl, ((HE5.out.bel).trans (HB4.out.mono HE5.out.bel.size)).trans (k9.mono (by have := HE5.out.le; omega))⟩
                        · have e19 : (xo == 19) = false := by simp [q19]
                          have HR : Hid (RES = wkV xo n0 n0) := Lib.hid (by rw [HR0.out]; unfold plV; rw [if_neg (fun h => h.elim g0 g0), if_neg (fun h => h.elim g2 g2)]; rw [if_neg (by first | exact q19 | omega)])
                          obtain ⟨J, hJ⟩ : ∃ J, J = wkV xo n0 n0 := ⟨_, rfl⟩
                          have CW := Lib.hid (HW.out xo n0 n0 (by exact HPW.out (by omega)))
                          rw [← hJ] at CW HR
                          clear hJ
                          obtain ⟨jr, jn, jt⟩ := J
                          have CW2 : Hid (∀ V, Calls Try.prog 93 #[.int .i64 xo, .int .i64 n0, .int .i64 n0] V fun e w' => e = .returned (.agg #[.int .i64 jr, .int .i64 jn, .bool jt]) ∧ Below V.heap.size V w') := CW
                          go_wp2_with (go_at_call 93; (with_reducible refine (CW2.out _).mono ?_); rintro e w4 ⟨rfl, hb⟩; have HB4 := Lib.hid hb; have HX4 := Lib.hid ((hb.block _ (lt_of_heap HE5.out.va)).trans HE5.out.va); obtain ⟨n0', n1', n2'⟩ := trio HX4.out; have p0 : w4.frozen? ⟨z + 1 + 1, 0, none⟩ = false := free_blk HX4.out 0; have p1 : w4.frozen? ⟨z + 1 + 1, 1, none⟩ = false := free_blk HX4.out 1; have p2 : w4.frozen? ⟨z + 1 + 1, 2, none⟩ = false := free_blk HX4.out 2; clear hb)
                          obtain ⟨W10, hW10⟩ : ∃ X, (((w4.setCell ⟨z + 1 + 1, 0, none⟩ (.int .i64 jr)).setCell ⟨z + 1 + 1, 1, none⟩ (.int .i64 jn)).setCell ⟨z + 1 + 1, 2, none⟩ (.bool jt)) = X := ⟨_, rfl⟩
                          obtain ⟨k9, _, _, x9⟩ := three_set w4 (z + 1 + 1) (.int .i64 jr) (.int .i64 jn) (.bool jt) _ _ ⟨_, _, _, rfl⟩ HX4.out W10 hW10
                          rw [hW10]
                          clear n0' n1' n2' p0 p1 p2
                          obtain ⟨d0, d1, d2⟩ := trio x9
                          exact bodyPost_ret (v := .agg #[.int .i64 jr, .int .i64 jn, .bool jt]) (by simp [results, Try.results66, go_sem, d0, d1, d2]) rfl ⟨by rw [HR.out], ((HE5.out.bel).trans (HB4.out.mono HE5.out.bel.size)).trans (k9.mono (by have := HE5.out.le; omega))⟩
                · have e19 : (xo == 19) = false := by simp; omega
                  have q19 : ¬ xo = 19 := by omega
                  have hm3 : m = 2 := by
                    have h1 := hlen
                    unfold kidX at h1
                    (repeat' split at h1) <;> omega
                  subst hm3
                  clear hlen
                  obtain ⟨g0, g1, hu⟩ : ∃ g0 g1, l = [g0, g1] := by
                    have h3 := HM.out
                    match l, h3 with
                    | [a0, a1], _ => exact ⟨a0, a1, rfl⟩
                  subst hu
                  obtain ⟨a, co, ck, rfl, hsa0, hck0, hf0, hyl0⟩ := HXX.out.get (i := 0) (x := g0) rfl
                  have C0 := Lib.hid (HI.out g0 (by simp) co ck hck0 hyl0)
                  obtain ⟨yo, hyo⟩ : ∃ v, v = g0.op := ⟨_, rfl⟩
                  obtain ⟨yn, hyn⟩ : ∃ v, v = g0.n := ⟨_, rfl⟩
                  obtain ⟨ys, hys⟩ : ∃ v, v = g0.nm := ⟨_, rfl⟩
                  obtain ⟨cm, hcm⟩ : ∃ v, v = g0.args.length := ⟨_, rfl⟩
                  rw [show exV g0 co ck = .agg #[.int .i64 yo, .int .i64 yn, .string ys, .slice co cm ck] from by rw [hyo, hyn, hys, hcm]] at C0
                  rw [← hyo, ← hyn, ← hys, ← hcm] at hf0
                  obtain ⟨v0, hv0⟩ : ∃ v, v = g0.ev (fun s => seenF day s F) day := ⟨_, rfl⟩
                  rw [← hv0] at C0
                  obtain ⟨a', co1, ck1, ha', hsa1, hck1, hf1, hyl1⟩ := HXX.out.get (i := 1) (x := g1) rfl
                  cases ha'
                  have C1 := Lib.hid (HI.out g1 (by simp) co1 ck1 hck1 hyl1)
                  obtain ⟨zo, hzo⟩ : ∃ v, v = g1.op := ⟨_, rfl⟩
                  obtain ⟨zn, hzn⟩ : ∃ v, v = g1.n := ⟨_, rfl⟩
                  obtain ⟨zs, hzs⟩ : ∃ v, v = g1.nm := ⟨_, rfl⟩
                  obtain ⟨dm, hdm⟩ : ∃ v, v = g1.args.length := ⟨_, rfl⟩
                  rw [show exV g1 co1 ck1 = .agg #[.int .i64 zo, .int .i64 zn, .string zs, .slice co1 dm ck1] from by rw [hzo, hzn, hzs, hdm]] at C1
                  rw [← hzo, ← hzn, ← hzs, ← hdm] at hf1
                  obtain ⟨v1, hv1⟩ : ∃ v, v = g1.ev (fun s => seenF day s F) day := ⟨_, rfl⟩
                  rw [← hv1] at C1
                  rw [Nat.zero_mul, addr_zero] at hf0
                  rw [show a.add (1 * 4) = ⟨a.block, a.off + 4, none⟩ from rfl] at hf1
                  have hab : a.block < w.heap.size := HSB.out _ hsa0
                  have HRV : Hid (RES = evN (fun s => seenF day s F) day xo xn xs [v0, v1] ∧ wokN P xo [v0, v1]) := Lib.hid (by
                    have h1 := HEV.out
                    have h2 := HWK.out
                    simp only [List.map] at h1 h2
                    rw [← hv0, ← hv1] at h1 h2
                    exact ⟨h1, h2⟩)
                  have hkm : 2 ≤ k := HKM.out
                  clear hv0 hck0 hyl0 hsa0 hyo hyn hys hcm hv1 hck1 hyl1 hsa1 hzo hzn hzs hdm
                  obtain ⟨r0, hr0⟩ : ∃ r, r = v0.kind := ⟨_, rfl⟩
                  obtain ⟨n0, hn0⟩ : ∃ r, r = v0.n := ⟨_, rfl⟩
                  obtain ⟨t0, ht0⟩ : ∃ r, r = v0.b := ⟨_, rfl⟩
                  have HV0 : Hid (v0 = ⟨r0, n0, t0⟩) := Lib.hid (by rw [hr0, hn0, ht0])
                  rw [show vlV v0 = .agg #[.int .i64 r0, .int .i64 n0, .bool t0] from by rw [hr0, hn0, ht0]] at C0
                  clear hr0 hn0 ht0
                  obtain ⟨r1, hr1⟩ : ∃ r, r = v1.kind := ⟨_, rfl⟩
                  obtain ⟨n1, hn1⟩ : ∃ r, r = v1.n := ⟨_, rfl⟩
                  obtain ⟨t1, ht1⟩ : ∃ r, r = v1.b := ⟨_, rfl⟩
                  have HV1 : Hid (v1 = ⟨r1, n1, t1⟩) := Lib.hid (by rw [hr1, hn1, ht1])
                  rw [show vlV v1 = .agg #[.int .i64 r1, .int .i64 n1, .bool t1] from by rw [hr1, hn1, ht1]] at C1
                  clear hr1 hn1 ht1
                  have HC0 : Hid (∀ V, Below w.heap.size w V → FourX V a (.int .i64 yo) (.int .i64 yn) (.string ys) (.slice co cm ck)) := Lib.hid fun V hV => hf0.stay (hV.block _ hab)
                  have HC1 : Hid (∀ V, Below w.heap.size w V → FourX V ⟨a.block, a.off + 4, none⟩ (.int .i64 zo) (.int .i64 zn) (.string zs) (.slice co1 dm ck1)) := Lib.hid fun V hV => hf1.stay (hV.block _ hab)
                  have HAB := Lib.hid hab
                  clear hab hf0 hf1
                  go_enter Try.func66, Try.ntmps66
                  go_upto_region 1 with fail
                  obtain ⟨W, hW⟩ : ∃ X, ((w.alloc (.cells #[.int .i64 xo, .int .i64 xn, .string xs, .slice (some a) 2 k] 34)).alloc (.cells #[.int .i64 day, .slice fa fm fc] 63)).alloc (.cells #[.int .i64 0, .int .i64 0, .bool false] 73) = X := ⟨_, rfl⟩
                  obtain ⟨g1, b1, b2, b3⟩ := GA.out W hW
                  obtain ⟨z, hz⟩ : ∃ z, z = w.heap.size := ⟨_, rfl⟩
                  rw [hW, ← hz]
                  rw [← hz] at b1 b2 b3
                  have HE : Hid (EvB z #[.int .i64 xo, .int .i64 xn, .string xs, .slice (some a) 2 k] #[.int .i64 day, .slice fa fm fc] w W) := Lib.hid ⟨g1, b1, b2, b3, by omega⟩
                  clear hW b1 b2 b3 g1 GA hz
                  obtain ⟨c0, c1, c2, c3⟩ := quad HE.out.ex
                  go_upto_region 18 with fail
                  clear c0 c1 c2 c3
                  have c3 : W.cell? ⟨z, 3, none⟩ = some (.slice (some a) 2 k) := cell_blk HE.out.ex 3
                  obtain ⟨e0, e1⟩ := duo HE.out.en
                  obtain ⟨y0, y1, y2, y3⟩ := HC0.out W HE.out.bel
                  go_cut [7] (fun p wx => ∃ u : Nat, p = .pointer (some ⟨u, 0, none⟩) ∧ Hid (Below W.heap.size W wx ∧ W.heap.size ≤ u ∧ wx.heap[u]? = some (.cells #[.int .i64 r0, .int .i64 n0, .bool t0] 73 (0, 0))))
                  case first =>
                    have HBA : Hid (Below W.heap.size W (W.alloc (.cells #[.int .i64 0, .int .i64 0, .bool false] 73)).drew ∧ (W.alloc (.cells #[.int .i64 0, .int .i64 0, .bool false] 73)).drew.heap[W.heap.size]? = some (.cells #[.int .i64 0, .int .i64 0, .bool false] 73 (0, 0))) := Lib.hid ⟨((Below.refl _ _).alloc (Nat.le_refl _) _).drew, heap_alloc_new _ _⟩
                    have HBD : Hid (Below W.heap.size W W.drew) := Lib.hid (Below.refl _ _).drew
                    have HSF : Hid (∀ V, Below W.heap.size W V → V.cell? ⟨z, 3, none⟩ = some (.slice (some a) 2 k) ∧ V.cell? ⟨z + 1, 0, none⟩ = some (.int .i64 day) ∧ V.cell? ⟨z + 1, 1, none⟩ = some (.slice fa fm fc) ∧ V.cell? a = some (.int .i64 yo) ∧ V.cell? ⟨a.block, a.off + 1, none⟩ = some (.int .i64 yn) ∧ V.cell? ⟨a.block, a.off + 2, none⟩ = some (.string ys) ∧ V.cell? ⟨a.block, a.off + 3, none⟩ = some (.slice co cm ck)) := Lib.hid fun V hV => ⟨cell_blk (HE.out.next hV).ex 3, (duo (HE.out.next hV).en).1, (duo (HE.out.next hV).en).2, (HC0.out V (HE.out.next hV).bel).1, (HC0.out V (HE.out.next hV).bel).2.1, (HC0.out V (HE.out.next hV).bel).2.2.1, (HC0.out V (HE.out.next hV).bel).2.2.2⟩
                    go_region_held3 (fun w' => w'.cell? ⟨z, 3, none⟩ = some (.slice (some a) 2 k) ∧ w'.cell? ⟨z + 1, 0, none⟩ = some (.int .i64 day) ∧ w'.cell? ⟨z + 1, 1, none⟩ = some (.slice fa fm fc) ∧ w'.cell? a = some (.int .i64 yo) ∧ w'.cell? ⟨a.block, a.off + 1, none⟩ = some (.int .i64 yn) ∧ w'.cell? ⟨a.block, a.off + 2, none⟩ = some (.string ys) ∧ w'.cell? ⟨a.block, a.off + 3, none⟩ = some (.slice co cm ck))
                      (first | exact HSF.out _ HB4.out | exact HSF.out _ (below_mono HB4.out ((Below.refl _ _).alloc (Nat.le_refl _) _) (Nat.le_refl _)) | exact HSF.out _ (((HB4.out.setCell (p := ⟨W.heap.size, 0, none⟩) (Nat.le_refl _) _).setCell (p := ⟨W.heap.size, 1, none⟩) (Nat.le_refl _) _).setCell (p := ⟨W.heap.size, 2, none⟩) (Nat.le_refl _) _) | (go_keep; done))
                      (first
                        | (go_at_call 66; (with_reducible refine (C0.out _ (HE.out.next HBD.out).bel).mono ?_); rintro e w4 ⟨rfl, hb⟩; have HB4 := Lib.hid (HBD.out.trans hb); clear hb; obtain ⟨⟨n0', n1', n2'⟩, p0, p1, p2⟩ := three_zero w4 (.int .i64 0) (.int .i64 0) (.bool false) 73)
                        | (go_at_call 66; (with_reducible refine (C0.out _ (HE.out.next HBA.out.1).bel).mono ?_); rintro e w4 ⟨rfl, hb⟩; have HB4 := Lib.hid (HBA.out.1.trans (hb.mono (by simp))); have HX4 := Lib.hid ((hb.block _ (by simp)).trans HBA.out.2); obtain ⟨n0', n1', n2'⟩ := trio HX4.out; have p0 : w4.frozen? ⟨W.heap.size, 0, none⟩ = false := free_blk HX4.out 0; have p1 : w4.frozen? ⟨W.heap.size, 1, none⟩ = false := free_blk HX4.out 1; have p2 : w4.frozen? ⟨W.heap.size, 2, none⟩ = false := free_blk HX4.out 2; clear hb))
                    · go_wp2_with fail
                      go_meet
                      exact ⟨w4.heap.size, rfl, Lib.hid ⟨below_mono HB4.out ((Below.refl _ _).alloc (Nat.le_refl _) _) (Nat.le_refl _), HB4.out.size, heap_alloc_new _ _⟩⟩
                    · go_wp2_with fail
                      go_meet
                      obtain ⟨k9, _, _, x9⟩ := three_set w4 W.heap.size (.int .i64 r0) (.int .i64 n0) (.bool t0) _ _ ⟨_, _, _, rfl⟩ HX4.out _ rfl
                      exact ⟨W.heap.size, rfl, Lib.hid ⟨HB4.out.trans k9, Nat.le_refl _, x9⟩⟩
                  case rest =>
                    obtain ⟨u, rfl, HU⟩ := hcut
                    clear c3 e0 e1 y0 y1 y2 y3
                    have HE2 := Lib.hid (HE.out.next HU.out.1)
                    obtain ⟨k0, k1, k2⟩ := trio HU.out.2.2
                    have hzu : z + 1 + 1 < u := by have h1 := lt_of_heap HE.out.va; have h2 := HU.out.2.1; omega
                    obtain ⟨⟨n0', n1', n2'⟩, p0, p1, p2⟩ := three_zero wc (.int .i64 0) (.int .i64 0) (.bool false) 73
                    go_upto_region 20 with fail
                    clear k0 k1 k2 n0' n1' n2' p0 p1 p2
                    obtain ⟨W5, hW5⟩ : ∃ X, wc.alloc (.cells #[.int .i64 r0, .int .i64 n0, .bool t0] 73) = X := ⟨_, rfl⟩
                    obtain ⟨k5, b5, s5⟩ := three_made _ _ _ _ wc W5 hW5
                    obtain ⟨u8, hu8⟩ : ∃ u8, u8 = wc.heap.size := ⟨_, rfl⟩
                    rw [hW5, ← hu8]
                    rw [← hu8] at b5
                    have huu : u < u8 := by have := lt_of_heap HU.out.2.2; omega
                    have HE5 := Lib.hid (HE2.out.next k5)
                    have HXU := Lib.hid ((k5.block u (lt_of_heap HU.out.2.2)).trans HU.out.2.2)
                    have HXB := Lib.hid b5
                    obtain ⟨c0, c1, c2, c3⟩ := quad HE5.out.ex
                    clear hW5 k5 b5 s5 hu8
                    have HR0 : Hid (RES = plV xo ⟨r0, n0, t0⟩ ⟨r1, n1, t1⟩) := Lib.hid (by rw [HRV.out.1, HV0.out, HV1.out]; unfold evN; rw [if_neg (by omega), if_neg (by omega), if_neg (by omega)]; dsimp only; rw [if_neg (by omega), if_neg (by omega)])
                    have HPW : Hid (P xo n0 n1) := Lib.hid (by have h := HRV.out.2; rw [HV0.out, HV1.out] at h; exact h ⟨by omega, by omega⟩)
                    go_upto_region 21 with fail
                    clear c0 c1 c2 c3
                    have c3 : W5.cell? ⟨z, 3, none⟩ = some (.slice (some a) 2 k) := cell_blk HE5.out.ex 3
                    obtain ⟨e0, e1⟩ := duo HE5.out.en
                    obtain ⟨y0, y1, y2, y3⟩ := HC1.out W5 HE5.out.bel
                    have HNE : Hid (z ≠ u8 ∧ z + 1 ≠ u8 ∧ a.block ≠ u8) := Lib.hid ⟨by omega, by omega, by have h1 := HAB.out; have h2 := HE5.out.le; omega⟩
                    have HBD : Hid (Below W5.heap.size W5 W5.drew) := Lib.hid (Below.refl _ _).drew
                    have HSF : Hid (∀ V, Below W5.heap.size W5 V → V.cell? ⟨z, 3, none⟩ = some (.slice (some a) 2 k) ∧ V.cell? ⟨z + 1, 0, none⟩ = some (.int .i64 day) ∧ V.cell? ⟨z + 1, 1, none⟩ = some (.slice fa fm fc) ∧ V.cell? ⟨a.block, a.off + 4, none⟩ = some (.int .i64 zo) ∧ V.cell? ⟨a.block, a.off + 4 + 1, none⟩ = some (.int .i64 zn) ∧ V.cell? ⟨a.block, a.off + 4 + 2, none⟩ = some (.string zs) ∧ V.cell? ⟨a.block, a.off + 4 + 3, none⟩ = some (.slice co1 dm ck1)) := Lib.hid fun V hV => ⟨cell_blk (HE5.out.next hV).ex 3, (duo (HE5.out.next hV).en).1, (duo (HE5.out.next hV).en).2, (HC1.out V (HE5.out.next hV).bel).1, (HC1.out V (HE5.out.next hV).bel).2.1, (HC1.out V (HE5.out.next hV).bel).2.2.1, (HC1.out V (HE5.out.next hV).bel).2.2.2⟩
                    have HSB : Hid (∀ V, Below W5.heap.size W5 V → (((V.setCell ⟨u8, 0, none⟩ (.int .i64 r1)).setCell ⟨u8, 1, none⟩ (.int .i64 n1)).setCell ⟨u8, 2, none⟩ (.bool t1)).cell? ⟨z, 3, none⟩ = some (.slice (some a) 2 k) ∧ (((V.setCell ⟨u8, 0, none⟩ (.int .i64 r1)).setCell ⟨u8, 1, none⟩ (.int .i64 n1)).setCell ⟨u8, 2, none⟩ (.bool t1)).cell? ⟨z + 1, 0, none⟩ = some (.int .i64 day) ∧ (((V.setCell ⟨u8, 0, none⟩ (.int .i64 r1)).setCell ⟨u8, 1, none⟩ (.int .i64 n1)).setCell ⟨u8, 2, none⟩ (.bool t1)).cell? ⟨z + 1, 1, none⟩ = some (.slice fa fm fc) ∧ (((V.setCell ⟨u8, 0, none⟩ (.int .i64 r1)).setCell ⟨u8, 1, none⟩ (.int .i64 n1)).setCell ⟨u8, 2, none⟩ (.bool t1)).cell? ⟨a.block, a.off + 4, none⟩ = some (.int .i64 zo) ∧ (((V.setCell ⟨u8, 0, none⟩ (.int .i64 r1)).setCell ⟨u8, 1, none⟩ (.int .i64 n1)).setCell ⟨u8, 2, none⟩ (.bool t1)).cell? ⟨a.block, a.off + 4 + 1, none⟩ = some (.int .i64 zn) ∧ (((V.setCell ⟨u8, 0, none⟩ (.int .i64 r1)).setCell ⟨u8, 1, none⟩ (.int .i64 n1)).setCell ⟨u8, 2, none⟩ (.bool t1)).cell? ⟨a.block, a.off + 4 + 2, none⟩ = some (.string zs) ∧ (((V.setCell ⟨u8, 0, none⟩ (.int .i64 r1)).setCell ⟨u8, 1, none⟩ (.int .i64 n1)).setCell ⟨u8, 2, none⟩ (.bool t1)).cell? ⟨a.block, a.off + 4 + 3, none⟩ = some (.slice co1 dm ck1)) := Lib.hid fun V hV => ⟨(set3_cell V (u8) _ _ _ (p := ⟨z, 3, none⟩) HNE.out.1).trans (HSF.out V hV).1, (set3_cell V (u8) _ _ _ (p := ⟨z + 1, 0, none⟩) HNE.out.2.1).trans (HSF.out V hV).2.1, (set3_cell V (u8) _ _ _ (p := ⟨z + 1, 1, none⟩) HNE.out.2.1).trans (HSF.out V hV).2.2.1, (set3_cell V (u8) _ _ _ (p := ⟨a.block, a.off + 4, none⟩) HNE.out.2.2).trans (HSF.out V hV).2.2.2.1, (set3_cell V (u8) _ _ _ (p := ⟨a.block, a.off + 4 + 1, none⟩) HNE.out.2.2).trans (HSF.out V hV).2.2.2.2.1, (set3_cell V (u8) _ _ _ (p := ⟨a.block, a.off + 4 + 2, none⟩) HNE.out.2.2).trans (HSF.out V hV).2.2.2.2.2.1, (set3_cell V (u8) _ _ _ (p := ⟨a.block, a.off + 4 + 3, none⟩) HNE.out.2.2).trans (HSF.out V hV).2.2.2.2.2.2⟩
                    go_region_held3 (fun w' => w'.cell? ⟨z, 3, none⟩ = some (.slice (some a) 2 k) ∧ w'.cell? ⟨z + 1, 0, none⟩ = some (.int .i64 day) ∧ w'.cell? ⟨z + 1, 1, none⟩ = some (.slice fa fm fc) ∧ w'.cell? ⟨a.block, a.off + 4, none⟩ = some (.int .i64 zo) ∧ w'.cell? ⟨a.block, a.off + 4 + 1, none⟩ = some (.int .i64 zn) ∧ w'.cell? ⟨a.block, a.off + 4 + 2, none⟩ = some (.string zs) ∧ w'.cell? ⟨a.block, a.off + 4 + 3, none⟩ = some (.slice co1 dm ck1))
                      (first | exact HSF.out _ HB4.out | exact HSB.out w4 HB4.out | (go_keep; done))
                      ((go_at_call 66; (with_reducible refine (C1.out _ (HE5.out.next HBD.out).bel).mono ?_); rintro e w4 ⟨rfl, hb⟩; have HB4 := Lib.hid (HBD.out.trans hb); clear hb; have HX4 := Lib.hid ((HB4.out.block _ (lt_of_heap HXB.out)).trans HXB.out); obtain ⟨n0', n1', n2'⟩ := trio HX4.out; have p0 : w4.frozen? ⟨u8, 0, none⟩ = false := free_blk HX4.out 0; have p1 : w4.frozen? ⟨u8, 1, none⟩ = false := free_blk HX4.out 1; have p2 : w4.frozen? ⟨u8, 2, none⟩ = false := free_blk HX4.out 2))
                    go_upto_region 22 with fail
                    have HS6 := Lib.hid (three_set w4 u8 (.int .i64 r1) (.int .i64 n1) (.bool t1) _ _ ⟨_, _, _, rfl⟩ HX4.out)
                    clear n0' n1' n2' p0 p1 p2 c3 e0 e1 y0 y1 y2 y3
                    obtain ⟨W6, hW6⟩ : ∃ X, (((w4.setCell ⟨u8, 0, none⟩ (.int .i64 r1)).setCell ⟨u8, 1, none⟩ (.int .i64 n1)).setCell ⟨u8, 2, none⟩ (.bool t1)) = X := ⟨_, rfl⟩
                    obtain ⟨k6, f6, s6, x6⟩ := HS6.out W6 hW6
                    rw [hW6]
                    have HE6 := Lib.hid ((HE5.out.next HB4.out).set (u := u8) (by omega) f6 ((HE5.out.next HB4.out).bel.trans (k6.mono (by have := HE5.out.le; omega))))
                    have HXU6 := Lib.hid ((f6 u (by omega)).trans ((HB4.out.block u (lt_of_heap HXU.out)).trans HXU.out))
                    have HXV := Lib.hid x6
                    clear hW6 k6 f6 s6 x6 HS6 HXU
                    have HXU := HXU6
                    clear HXU6
                    obtain ⟨k0, k1, k2⟩ := trio HXU.out
                    obtain ⟨l0, l1, l2⟩ := trio HXV.out
                    obtain ⟨c0, c1, c2, c3⟩ := quad HE6.out.ex
                    by_cases g0 : r0 = 3
                    · have f0 : (r0 == 3) = true := by simp [g0]
                      have HR : Hid (RES = brkV) := Lib.hid (by rw [HR0.out]; unfold plV; rw [if_pos (.inl g0)])
                      clear g0
                      go_upto_region 23 with fail
                      obtain ⟨q0', q1', q2'⟩ := trio HE6.out.va
                      have p0 : W6.frozen? ⟨z + 1 + 1, 0, none⟩ = false := free_blk HE6.out.va 0
                      have p1 : W6.frozen? ⟨z + 1 + 1, 1, none⟩ = false := free_blk HE6.out.va 1
                      have p2 : W6.frozen? ⟨z + 1 + 1, 2, none⟩ = false := free_blk HE6.out.va 2
                      go_wp2_with fail
                      have HS9 := Lib.hid (three_set W6 (z + 1 + 1) (.int .i64 3) (.int .i64 0) (.bool false) _ _ ⟨_, _, _, rfl⟩ HE6.out.va)
                      clear q0' q1' q2' p0 p1 p2
                      obtain ⟨W9, hW9⟩ : ∃ X, (((W6.setCell ⟨z + 1 + 1, 0, none⟩ (.int .i64 3)).setCell ⟨z + 1 + 1, 1, none⟩ (.int .i64 0)).setCell ⟨z + 1 + 1, 2, none⟩ (.bool false)) = X := ⟨_, rfl⟩
                      obtain ⟨k9, _, _, x9⟩ := HS9.out W9 hW9
                      rw [hW9]
                      obtain ⟨d0, d1, d2⟩ := trio x9
                      exact bodyPost_ret (v := .agg #[.int .i64 3, .int .i64 0, .bool false]) (by simp [results, Try.results66, go_sem, d0, d1, d2]) rfl ⟨by rw [HR.out]; rfl, HE6.out.bel.trans (k9.mono (by have := HE6.out.le; omega))⟩
                    · have f0 : (r0 == 3) = false := by simp [g0]
                      by_cases g1 : r1 = 3
                      · have f1 : (r1 == 3) = true := by simp [g1]
                        have HR : Hid (RES = brkV) := Lib.hid (by rw [HR0.out]; unfold plV; rw [if_pos (.inr g1)])
                        clear g1
                        go_upto_region 23 with fail
                        obtain ⟨q0', q1', q2'⟩ := trio HE6.out.va
                        have p0 : W6.frozen? ⟨z + 1 + 1, 0, none⟩ = false := free_blk HE6.out.va 0
                        have p1 : W6.frozen? ⟨z + 1 + 1, 1, none⟩ = false := free_blk HE6.out.va 1
                        have p2 : W6.frozen? ⟨z + 1 + 1, 2, none⟩ = false := free_blk HE6.out.va 2
                        go_wp2_with fail
                        have HS9 := Lib.hid (three_set W6 (z + 1 + 1) (.int .i64 3) (.int .i64 0) (.bool false) _ _ ⟨_, _, _, rfl⟩ HE6.out.va)
                        clear q0' q1' q2' p0 p1 p2
                        obtain ⟨W9, hW9⟩ : ∃ X, (((W6.setCell ⟨z + 1 + 1, 0, none⟩ (.int .i64 3)).setCell ⟨z + 1 + 1, 1, none⟩ (.int .i64 0)).setCell ⟨z + 1 + 1, 2, none⟩ (.bool false)) = X := ⟨_, rfl⟩
                        obtain ⟨k9, _, _, x9⟩ := HS9.out W9 hW9
                        rw [hW9]
                        obtain ⟨d0, d1, d2⟩ := trio x9
                        exact bodyPost_ret (v := .agg #[.int .i64 3, .int .i64 0, .bool false]) (by simp [results, Try.results66, go_sem, d0, d1, d2]) rfl ⟨by rw [HR.out]; rfl, HE6.out.bel.trans (k9.mono (by have := HE6.out.le; omega))⟩
                      · have f1 : (r1 == 3) = false := by simp [g1]
                        by_cases g2 : r0 = 0
                        · have f2 : (r0 == 0) = true := by simp [g2]
                          have HR : Hid (RES = unkV) := Lib.hid (by rw [HR0.out]; unfold plV; rw [if_neg (fun h => h.elim g0 g1), if_pos (.inl g2)])
                          clear g2
                          go_upto_region 25 with fail
                          obtain ⟨q0', q1', q2'⟩ := trio HE6.out.va
                          have p0 : W6.frozen? ⟨z + 1 + 1, 0, none⟩ = false := free_blk HE6.out.va 0
                          have p1 : W6.frozen? ⟨z + 1 + 1, 1, none⟩ = false := free_blk HE6.out.va 1
                          have p2 : W6.frozen? ⟨z + 1 + 1, 2, none⟩ = false := free_blk HE6.out.va 2
                          go_wp2_with fail
                          have HS9 := Lib.hid (three_set W6 (z + 1 + 1) (.int .i64 0) (.int .i64 0) (.bool false) _ _ ⟨_, _, _, rfl⟩ HE6.out.va)
                          clear q0' q1' q2' p0 p1 p2
                          obtain ⟨W9, hW9⟩ : ∃ X, (((W6.setCell ⟨z + 1 + 1, 0, none⟩ (.int .i64 0)).setCell ⟨z + 1 + 1, 1, none⟩ (.int .i64 0)).setCell ⟨z + 1 + 1, 2, none⟩ (.bool false)) = X := ⟨_, rfl⟩
                          obtain ⟨k9, _, _, x9⟩ := HS9.out W9 hW9
                          rw [hW9]
                          obtain ⟨d0, d1, d2⟩ := trio x9
                          exact bodyPost_ret (v := .agg #[.int .i64 0, .int .i64 0, .bool false]) (by simp [results, Try.results66, go_sem, d0, d1, d2]) rfl ⟨by rw [HR.out]; rfl, HE6.out.bel.trans (k9.mono (by have := HE6.out.le; omega))⟩
                        · have f2 : (r0 == 0) = false := by simp [g2]
                          by_cases g3 : r1 = 0
                          · have f3 : (r1 == 0) = true := by simp [g3]
                            have HR : Hid (RES = unkV) := Lib.hid (by rw [HR0.out]; unfold plV; rw [if_neg (fun h => h.elim g0 g1), if_pos (.inr g3)])
                            clear g3
                            go_upto_region 25 with fail
                            obtain ⟨q0', q1', q2'⟩ := trio HE6.out.va
                            have p0 : W6.frozen? ⟨z + 1 + 1, 0, none⟩ = false := free_blk HE6.out.va 0
                            have p1 : W6.frozen? ⟨z + 1 + 1, 1, none⟩ = false := free_blk HE6.out.va 1
                            have p2 : W6.frozen? ⟨z + 1 + 1, 2, none⟩ = false := free_blk HE6.out.va 2
                            go_wp2_with fail
                            have HS9 := Lib.hid (three_set W6 (z + 1 + 1) (.int .i64 0) (.int .i64 0) (.bool false) _ _ ⟨_, _, _, rfl⟩ HE6.out.va)
                            clear q0' q1' q2' p0 p1 p2
                            obtain ⟨W9, hW9⟩ : ∃ X, (((W6.setCell ⟨z + 1 + 1, 0, none⟩ (.int .i64 0)).setCell ⟨z + 1 + 1, 1, none⟩ (.int .i64 0)).setCell ⟨z + 1 + 1, 2, none⟩ (.bool false)) = X := ⟨_, rfl⟩
                            obtain ⟨k9, _, _, x9⟩ := HS9.out W9 hW9
                            rw [hW9]
                            obtain ⟨d0, d1, d2⟩ := trio x9
                            exact bodyPost_ret (v := .agg #[.int .i64 0, .int .i64 0, .bool false]) (by simp [results, Try.results66, go_sem, d0, d1, d2]) rfl ⟨by rw [HR.out]; rfl, HE6.out.bel.trans (k9.mono (by have := HE6.out.le; omega))⟩
                          · have f3 : (r1 == 0) = false := by simp [g3]
                            have HR : Hid (RES = wkV xo n0 n1) := Lib.hid (by rw [HR0.out]; unfold plV; rw [if_neg (fun h => h.elim g0 g1), if_neg (fun h => h.elim g2 g3)]; rw [if_neg (by first | exact q19 | omega)])
                            obtain ⟨J, hJ⟩ : ∃ J, J = wkV xo n0 n1 := ⟨_, rfl⟩
                            have CW := Lib.hid (HW.out xo n0 n1 (by exact HPW.out))
                            rw [← hJ] at CW HR
                            clear hJ
                            obtain ⟨jr, jn, jt⟩ := J
                            have CW2 : Hid (∀ V, Calls Try.prog 93 #[.int .i64 xo, .int .i64 n0, .int .i64 n1] V fun e w' => e = .returned (.agg #[.int .i64 jr, .int .i64 jn, .bool jt]) ∧ Below V.heap.size V w') := CW
                            go_wp2_with (go_at_call 93; (with_reducible refine (CW2.out _).mono ?_); rintro e w4 ⟨rfl, hb⟩; have HB4 := Lib.hid hb; have HX4 := Lib.hid ((hb.block _ (lt_of_heap HE6.out.va)).trans HE6.out.va); obtain ⟨n0', n1', n2'⟩ := trio HX4.out; have p0 : w4.frozen? ⟨z + 1 + 1, 0, none⟩ = false := free_blk HX4.out 0; have p1 : w4.frozen? ⟨z + 1 + 1, 1, none⟩ = false := free_blk HX4.out 1; have p2 : w4.frozen? ⟨z + 1 + 1, 2, none⟩ = false := free_blk HX4.out 2; clear hb)
                            obtain ⟨W10, hW10⟩ : ∃ X, (((w4.setCell ⟨z + 1 + 1, 0, none⟩ (.int .i64 jr)).setCell ⟨z + 1 + 1, 1, none⟩ (.int .i64 jn)).setCell ⟨z + 1 + 1, 2, none⟩ (.bool jt)) = X := ⟨_, rfl⟩
                            obtain ⟨k9, _, _, x9⟩ := three_set w4 (z + 1 + 1) (.int .i64 jr) (.int .i64 jn) (.bool jt) _ _ ⟨_, _, _, rfl⟩ HX4.out W10 hW10
                            rw [hW10]
                            clear n0' n1' n2' p0 p1 p2
                            obtain ⟨d0, d1, d2⟩ := trio x9
                            exact bodyPost_ret (v := .agg #[.int .i64 jr, .int .i64 jn, .bool jt]) (by simp [results, Try.results66, go_sem, d0, d1, d2]) rfl ⟨by rw [HR.out], ((HE6.out.bel).trans (HB4.out.mono HE6.out.bel.size)).trans (k9.mono (by have := HE6.out.le; omega))⟩
end Go.Proofs.Ytidldlhhmophjaa
namespace Go.Proofs.Ytidldlhhmophjaa
open Go.RowKit Go.PlainAid Go.Sort
set_option linter.unusedVariables false
set_option linter.unusedSimpArgs false
def Xp.evl (sn : ByteArray → Option Fx) (day : Int) (x : Xp) : Vl := if x.has = true then x.ev sn day else brkV
set_option maxRecDepth 100000 in
set_option maxHeartbeats 8000000 in
theorem evalOf_any {S R : Nat → Prop} (x : Xp) (bo : Option Addr) (k : Nat) (w : World) (hS : ∀ b, S b → b < w.heap.size) (hR : ∀ b, R b → b < w.heap.size) {P : Int → Int → Int → Prop} (hW : ∀ o a b, P o a b → ∀ w, Calls Try.prog 93 #[.int .i64 o, .int .i64 a, .int .i64 b] w fun e w' => e = .returned (vlV (wkV o a b)) ∧ Below w.heap.size w w') {F : List Fx} {fa : Option Addr} {fc : Nat} {day : Int} (hl : F.length ≤ 200)
    (hk : x.args.length ≤ k) (hx : ExL S w x.args bo) (hf : x.fit) (ht : x.thin) (hde : x.dep ≤ 900) (hok : x.has = true → x.wok P (fun s => seenF day s F) day) (hfx : FxA R fa F w) :
    Calls Try.prog 41 #[exV x bo k, .agg #[.int .i64 day, .slice fa F.length fc]] w fun e w' => e = .returned (vlV (x.evl (fun s => seenF day s F) day)) ∧ Below w.heap.size w w' := by
  have CK : Hid (∀ W, Below w.heap.size w W → Calls Try.prog 16 #[exV x bo k] W fun e w' => e = .returned (.tuple #[.int .i64 (x.kd : Nat), .bool x.has]) ∧ Below W.heap.size W w') := Lib.hid fun W h => kindOf_any x bo k W (fun b hb => Nat.lt_of_lt_of_le (hS b hb) h.size) hk (hx.stay (fun _ h => h) fun b hb => h.block b (hS b hb)) hf ht hde
  have CE : Hid (x.has = true → ∀ W, Below w.heap.size w W → Calls Try.prog 66 #[exV x bo k, .agg #[.int .i64 day, .slice fa F.length fc]] W fun e w' => e = .returned (vlV (x.ev (fun s => seenF day s F) day)) ∧ Below W.heap.size W w') := Lib.hid fun hh W h => by
    have hb : x.blt = true := by
      unfold Xp.has Xp.kd at hh
      by_cases hr : x.rgt = true
      · exact xrgt_blt hr
      · rw [if_neg hr] at hh
        simp at hh
    exact eval_any (S := S) (R := R) (B := w.heap.size) hS hR hW hl x bo k W h.size hb (hok hh) hk (hx.stay (fun _ h => h) fun b hb => h.block b (hS b hb)) (hfx.stay (fun _ h => h) fun b hb => h.block b (hR b hb))
  have HEV : Hid (x.evl (fun s => seenF day s F) day = if x.has = true then x.ev (fun s => seenF day s F) day else brkV) := Lib.hid rfl
  obtain ⟨RES, hRES⟩ : ∃ v, v = x.evl (fun s => seenF day s F) day := ⟨_, rfl⟩
  obtain ⟨EV, hEV⟩ : ∃ v, v = x.ev (fun s => seenF day s F) day := ⟨_, rfl⟩
  obtain ⟨hs, hhs⟩ : ∃ v, v = x.has := ⟨_, rfl⟩
  obtain ⟨kd, hkd⟩ : ∃ v, v = x.kd := ⟨_, rfl⟩
  rw [← hRES, ← hEV, ← hhs] at HEV
  rw [← hRES]
  rw [← hEV, ← hhs] at CE
  rw [← hhs, ← hkd] at CK
  obtain ⟨fm, hfm⟩ : ∃ m, m = F.length := ⟨_, rfl⟩
  obtain ⟨m, hm⟩ : ∃ m, m = x.args.length := ⟨_, rfl⟩
  obtain ⟨xo, hxo⟩ : ∃ v, v = x.op := ⟨_, rfl⟩
  obtain ⟨xn, hxn⟩ : ∃ v, v = x.n := ⟨_, rfl⟩
  obtain ⟨xs, hxs⟩ : ∃ v, v = x.nm := ⟨_, rfl⟩
  have hxe : exV x bo k = .agg #[.int .i64 xo, .int .i64 xn, .string xs, .slice bo m k] := by rw [hm, hxo, hxn, hxs]
  rw [hxe, ← hfm] at CE ⊢
  rw [hxe] at CK
  have GA := Lib.hid (entry_made (.int .i64 xo) (.int .i64 xn) (.string xs) (.slice bo m k) (.int .i64 day) (.slice fa fm fc) w)
  clear hx hf ht hde hok hfx hk hl hW hS hR hRES hEV hhs hkd hfm hm hxo hxn hxs hxe
  go_enter Try.func41, Try.ntmps41
  go_upto_region 1 with fail
  obtain ⟨W, hW⟩ : ∃ X, ((w.alloc (.cells #[.int .i64 xo, .int .i64 xn, .string xs, .slice bo m k] 34)).alloc (.cells #[.int .i64 day, .slice fa fm fc] 63)).alloc (.cells #[.int .i64 0, .int .i64 0, .bool false] 73) = X := ⟨_, rfl⟩
  obtain ⟨g1, b1, b2, b3⟩ := GA.out W hW
  obtain ⟨z, hz⟩ : ∃ z, z = w.heap.size := ⟨_, rfl⟩
  rw [hW, ← hz]
  rw [← hz] at b1 b2 b3
  have HE : Hid (EvB z #[.int .i64 xo, .int .i64 xn, .string xs, .slice bo m k] #[.int .i64 day, .slice fa fm fc] w W) := Lib.hid ⟨g1, b1, b2, b3, by omega⟩
  clear hW b1 b2 b3 g1 GA hz
  obtain ⟨c0, c1, c2, c3⟩ := quad HE.out.ex
  obtain ⟨e0, e1⟩ := duo HE.out.en
  cases hs with
  | false =>
    have HR : Hid (RES = brkV) := Lib.hid (by rw [HEV.out]; rfl)
    go_upto_region 3 with (go_at_call 16; (with_reducible refine (CK.out _ HE.out.bel).mono ?_); rintro e w3 ⟨rfl, hb⟩; have HE3 := Lib.hid (HE.out.next hb); clear hb)
    obtain ⟨q0', q1', q2'⟩ := trio HE3.out.va
    have p0 : w3.frozen? ⟨z + 1 + 1, 0, none⟩ = false := free_blk HE3.out.va 0
    have p1 : w3.frozen? ⟨z + 1 + 1, 1, none⟩ = false := free_blk HE3.out.va 1
    have p2 : w3.frozen? ⟨z + 1 + 1, 2, none⟩ = false := free_blk HE3.out.va 2
    go_wp2_with fail
    have HS9 := Lib.hid (three_set w3 (z + 1 + 1) (.int .i64 3) (.int .i64 0) (.bool false) _ _ ⟨_, _, _, rfl⟩ HE3.out.va)
    clear q0' q1' q2' p0 p1 p2
    obtain ⟨W9, hW9⟩ : ∃ X, (((w3.setCell ⟨z + 1 + 1, 0, none⟩ (.int .i64 3)).setCell ⟨z + 1 + 1, 1, none⟩ (.int .i64 0)).setCell ⟨z + 1 + 1, 2, none⟩ (.bool false)) = X := ⟨_, rfl⟩
    obtain ⟨k9, _, _, x9⟩ := HS9.out W9 hW9
    rw [hW9]
    obtain ⟨d0, d1, d2⟩ := trio x9
    exact bodyPost_ret (v := .agg #[.int .i64 3, .int .i64 0, .bool false]) (by simp [results, Try.results41, go_sem, d0, d1, d2]) rfl ⟨by rw [HR.out]; rfl, HE3.out.bel.trans (k9.mono (by have := HE3.out.le; omega))⟩
  | true =>
    have CE2 := Lib.hid (CE.out rfl)
    clear CE
    obtain ⟨jr, jn, jt⟩ := EV
    have CE3 : Hid (∀ W, Below w.heap.size w W → Calls Try.prog 66 #[.agg #[.int .i64 xo, .int .i64 xn, .string xs, .slice bo m k], .agg #[.int .i64 day, .slice fa fm fc]] W fun e w' => e = .returned (.agg #[.int .i64 jr, .int .i64 jn, .bool jt]) ∧ Below W.heap.size W w') := CE2
    have HR : Hid (RES = ⟨jr, jn, jt⟩) := Lib.hid (by rw [HEV.out]; rfl)
    go_upto_region 4 with (go_at_call 16; (with_reducible refine (CK.out _ HE.out.bel).mono ?_); rintro e w3 ⟨rfl, hb⟩; have HE3 := Lib.hid (HE.out.next hb); clear hb)
    clear c0 c1 c2 c3 e0 e1
    obtain ⟨c0, c1, c2, c3⟩ := quad HE3.out.ex
    obtain ⟨e0, e1⟩ := duo HE3.out.en
    go_wp2_with (go_at_call 66; (with_reducible refine (CE3.out _ HE3.out.bel).mono ?_); rintro e w4 ⟨rfl, hb⟩; have HB4 := Lib.hid hb; have HX4 := Lib.hid ((hb.block _ (lt_of_heap HE3.out.va)).trans HE3.out.va); obtain ⟨n0', n1', n2'⟩ := trio HX4.out; have p0 : w4.frozen? ⟨z + 1 + 1, 0, none⟩ = false := free_blk HX4.out 0; have p1 : w4.frozen? ⟨z + 1 + 1, 1, none⟩ = false := free_blk HX4.out 1; have p2 : w4.frozen? ⟨z + 1 + 1, 2, none⟩ = false := free_blk HX4.out 2; clear hb)
    obtain ⟨W10, hW10⟩ : ∃ X, (((w4.setCell ⟨z + 1 + 1, 0, none⟩ (.int .i64 jr)).setCell ⟨z + 1 + 1, 1, none⟩ (.int .i64 jn)).setCell ⟨z + 1 + 1, 2, none⟩ (.bool jt)) = X := ⟨_, rfl⟩
    obtain ⟨k9, _, _, x9⟩ := three_set w4 (z + 1 + 1) (.int .i64 jr) (.int .i64 jn) (.bool jt) _ _ ⟨_, _, _, rfl⟩ HX4.out W10 hW10
    rw [hW10]
    clear n0' n1' n2' p0 p1 p2
    obtain ⟨d0, d1, d2⟩ := trio x9
    exact bodyPost_ret (v := .agg #[.int .i64 jr, .int .i64 jn, .bool jt]) (by simp [results, Try.results41, go_sem, d0, d1, d2]) rfl ⟨by rw [HR.out], ((HE3.out.bel).trans (HB4.out.mono HE3.out.bel.size)).trans (k9.mono (by have := HE3.out.le; omega))⟩
set_option maxRecDepth 100000 in
set_option maxHeartbeats 4000000 in
theorem worked_15 (a b : Int) (w : World) : Calls Try.prog 93 #[.int .i64 15, .int .i64 a, .int .i64 b] w fun e w' => e = .returned (vlV (wkV 15 a b)) ∧ Below w.heap.size w w' := by
  have CT : Hid (∀ (t : Bool) W, Calls Try.prog 92 #[.bool t] W fun e w' => e = .returned (.agg #[.int .i64 2, .int .i64 0, .bool t]) ∧ Below W.heap.size W w') := Lib.hid fun t W => truth_any t W
  have HF := Lib.hid (three_made (.int .i64 0) (.int .i64 0) (.bool false) 73 w)
  obtain ⟨t, ht⟩ : ∃ t, t = decide (b ≤ a) := ⟨_, rfl⟩
  have HT : Hid (wkV 15 a b = truV t) := Lib.hid (by rw [ht]; rfl)
  have hd : decide (b ≤ a) = t := ht.symm
  go_enter Try.func93, Try.ntmps93
  go_upto_region 1 with fail
  obtain ⟨W, hW⟩ : ∃ X, w.alloc (.cells #[.int .i64 0, .int .i64 0, .bool false] 73) = X := ⟨_, rfl⟩
  obtain ⟨k, b', s⟩ := HF.out W hW
  obtain ⟨z, hz⟩ : ∃ z, z = w.heap.size := ⟨_, rfl⟩
  rw [hW, ← hz]
  rw [← hz] at b'
  have HB := Lib.hid k
  have HX := Lib.hid b'
  have HZ := Lib.hid hz
  clear hW k b' s HF hz
  cases t with
  | true =>
    have h1 : b ≤ a := of_decide_eq_true hd
    clear hd ht
    go_wp2_with (go_at_call 92; (with_reducible refine (CT.out true _).mono ?_); rintro e w4 ⟨rfl, hb⟩; have HB4 := Lib.hid hb; have HX4 := Lib.hid ((hb.block _ (lt_of_heap HX.out)).trans HX.out); obtain ⟨n0', n1', n2'⟩ := trio HX4.out; have p0 : w4.frozen? ⟨z, 0, none⟩ = false := free_blk HX4.out 0; have p1 : w4.frozen? ⟨z, 1, none⟩ = false := free_blk HX4.out 1; have p2 : w4.frozen? ⟨z, 2, none⟩ = false := free_blk HX4.out 2; clear hb)
    obtain ⟨W10, hW10⟩ : ∃ X, (((w4.setCell ⟨z, 0, none⟩ (.int .i64 2)).setCell ⟨z, 1, none⟩ (.int .i64 0)).setCell ⟨z, 2, none⟩ (.bool true)) = X := ⟨_, rfl⟩
    obtain ⟨k9, _, _, x9⟩ := three_set w4 z (.int .i64 2) (.int .i64 0) (.bool true) _ _ ⟨_, _, _, rfl⟩ HX4.out W10 hW10
    rw [hW10]
    clear n0' n1' n2' p0 p1 p2
    obtain ⟨d0, d1, d2⟩ := trio x9
    exact bodyPost_ret (v := .agg #[.int .i64 2, .int .i64 0, .bool true]) (by simp [results, Try.results93, go_sem, d0, d1, d2]) rfl ⟨by rw [HT.out]; rfl, (HB.out.trans (HB4.out.mono HB.out.size)).trans (k9.mono (by have := HZ.out; omega))⟩
  | false =>
    have h1 : ¬ (b ≤ a) := of_decide_eq_false hd
    clear hd ht
    go_wp2_with (go_at_call 92; (with_reducible refine (CT.out false _).mono ?_); rintro e w4 ⟨rfl, hb⟩; have HB4 := Lib.hid hb; have HX4 := Lib.hid ((hb.block _ (lt_of_heap HX.out)).trans HX.out); obtain ⟨n0', n1', n2'⟩ := trio HX4.out; have p0 : w4.frozen? ⟨z, 0, none⟩ = false := free_blk HX4.out 0; have p1 : w4.frozen? ⟨z, 1, none⟩ = false := free_blk HX4.out 1; have p2 : w4.frozen? ⟨z, 2, none⟩ = false := free_blk HX4.out 2; clear hb)
    obtain ⟨W10, hW10⟩ : ∃ X, (((w4.setCell ⟨z, 0, none⟩ (.int .i64 2)).setCell ⟨z, 1, none⟩ (.int .i64 0)).setCell ⟨z, 2, none⟩ (.bool false)) = X := ⟨_, rfl⟩
    obtain ⟨k9, _, _, x9⟩ := three_set w4 z (.int .i64 2) (.int .i64 0) (.bool false) _ _ ⟨_, _, _, rfl⟩ HX4.out W10 hW10
    rw [hW10]
    clear n0' n1' n2' p0 p1 p2
    obtain ⟨d0, d1, d2⟩ := trio x9
    exact bodyPost_ret (v := .agg #[.int .i64 2, .int .i64 0, .bool false]) (by simp [results, Try.results93, go_sem, d0, d1, d2]) rfl ⟨by rw [HT.out]; rfl, (HB.out.trans (HB4.out.mono HB.out.size)).trans (k9.mono (by have := HZ.out; omega))⟩
set_option maxRecDepth 100000 in
set_option maxHeartbeats 4000000 in
theorem worked_16 (a b : Int) (w : World) : Calls Try.prog 93 #[.int .i64 16, .int .i64 a, .int .i64 b] w fun e w' => e = .returned (vlV (wkV 16 a b)) ∧ Below w.heap.size w w' := by
  have CT : Hid (∀ (t : Bool) W, Calls Try.prog 92 #[.bool t] W fun e w' => e = .returned (.agg #[.int .i64 2, .int .i64 0, .bool t]) ∧ Below W.heap.size W w') := Lib.hid fun t W => truth_any t W
  have HF := Lib.hid (three_made (.int .i64 0) (.int .i64 0) (.bool false) 73 w)
  obtain ⟨t, ht⟩ : ∃ t, t = decide (b < a) := ⟨_, rfl⟩
  have HT : Hid (wkV 16 a b = truV t) := Lib.hid (by rw [ht]; rfl)
  have hd : decide (b < a) = t := ht.symm
  go_enter Try.func93, Try.ntmps93
  go_upto_region 1 with fail
  obtain ⟨W, hW⟩ : ∃ X, w.alloc (.cells #[.int .i64 0, .int .i64 0, .bool false] 73) = X := ⟨_, rfl⟩
  obtain ⟨k, b', s⟩ := HF.out W hW
  obtain ⟨z, hz⟩ : ∃ z, z = w.heap.size := ⟨_, rfl⟩
  rw [hW, ← hz]
  rw [← hz] at b'
  have HB := Lib.hid k
  have HX := Lib.hid b'
  have HZ := Lib.hid hz
  clear hW k b' s HF hz
  cases t with
  | true =>
    have h1 : b < a := of_decide_eq_true hd
    clear hd ht
    go_wp2_with (go_at_call 92; (with_reducible refine (CT.out true _).mono ?_); rintro e w4 ⟨rfl, hb⟩; have HB4 := Lib.hid hb; have HX4 := Lib.hid ((hb.block _ (lt_of_heap HX.out)).trans HX.out); obtain ⟨n0', n1', n2'⟩ := trio HX4.out; have p0 : w4.frozen? ⟨z, 0, none⟩ = false := free_blk HX4.out 0; have p1 : w4.frozen? ⟨z, 1, none⟩ = false := free_blk HX4.out 1; have p2 : w4.frozen? ⟨z, 2, none⟩ = false := free_blk HX4.out 2; clear hb)
    obtain ⟨W10, hW10⟩ : ∃ X, (((w4.setCell ⟨z, 0, none⟩ (.int .i64 2)).setCell ⟨z, 1, none⟩ (.int .i64 0)).setCell ⟨z, 2, none⟩ (.bool true)) = X := ⟨_, rfl⟩
    obtain ⟨k9, _, _, x9⟩ := three_set w4 z (.int .i64 2) (.int .i64 0) (.bool true) _ _ ⟨_, _, _, rfl⟩ HX4.out W10 hW10
    rw [hW10]
    clear n0' n1' n2' p0 p1 p2
    obtain ⟨d0, d1, d2⟩ := trio x9
    exact bodyPost_ret (v := .agg #[.int .i64 2, .int .i64 0, .bool true]) (by simp [results, Try.results93, go_sem, d0, d1, d2]) rfl ⟨by rw [HT.out]; rfl, (HB.out.trans (HB4.out.mono HB.out.size)).trans (k9.mono (by have := HZ.out; omega))⟩
  | false =>
    have h1 : ¬ (b < a) := of_decide_eq_false hd
    clear hd ht
    go_wp2_with (go_at_call 92; (with_reducible refine (CT.out false _).mono ?_); rintro e w4 ⟨rfl, hb⟩; have HB4 := Lib.hid hb; have HX4 := Lib.hid ((hb.block _ (lt_of_heap HX.out)).trans HX.out); obtain ⟨n0', n1', n2'⟩ := trio HX4.out; have p0 : w4.frozen? ⟨z, 0, none⟩ = false := free_blk HX4.out 0; have p1 : w4.frozen? ⟨z, 1, none⟩ = false := free_blk HX4.out 1; have p2 : w4.frozen? ⟨z, 2, none⟩ = false := free_blk HX4.out 2; clear hb)
    obtain ⟨W10, hW10⟩ : ∃ X, (((w4.setCell ⟨z, 0, none⟩ (.int .i64 2)).setCell ⟨z, 1, none⟩ (.int .i64 0)).setCell ⟨z, 2, none⟩ (.bool false)) = X := ⟨_, rfl⟩
    obtain ⟨k9, _, _, x9⟩ := three_set w4 z (.int .i64 2) (.int .i64 0) (.bool false) _ _ ⟨_, _, _, rfl⟩ HX4.out W10 hW10
    rw [hW10]
    clear n0' n1' n2' p0 p1 p2
    obtain ⟨d0, d1, d2⟩ := trio x9
    exact bodyPost_ret (v := .agg #[.int .i64 2, .int .i64 0, .bool false]) (by simp [results, Try.results93, go_sem, d0, d1, d2]) rfl ⟨by rw [HT.out]; rfl, (HB.out.trans (HB4.out.mono HB.out.size)).trans (k9.mono (by have := HZ.out; omega))⟩
end Go.Proofs.Ytidldlhhmophjaa
namespace Go.Proofs.Ytidldlhhmophjaa
open Go.RowKit Go.PlainAid Go.Sort
set_option linter.unusedVariables false
set_option linter.unusedSimpArgs false
def xSee : Xp := .mk 16 0 ⟨#[]⟩ [.mk 3 0 ⟨#[83, 80, 88]⟩ [], .mk 1 100 ⟨#[]⟩ []]
def xDay : Xp := .mk 15 0 ⟨#[]⟩ [.mk 4 0 ⟨#[]⟩ [], .mk 2 19723 ⟨#[]⟩ []]
def xBoth : Xp := .mk 17 0 ⟨#[]⟩ [xSee, xDay]
abbrev cSee : Array Value := #[.int .i64 3, .int .i64 0, .string ⟨#[83, 80, 88]⟩, .slice none 0 0, .int .i64 1, .int .i64 100, .string ⟨#[]⟩, .slice none 0 0]
abbrev cDay : Array Value := #[.int .i64 4, .int .i64 0, .string ⟨#[]⟩, .slice none 0 0, .int .i64 2, .int .i64 19723, .string ⟨#[]⟩, .slice none 0 0]
/-- A list of two in one block. -/
theorem two_list {S : Nat → Prop} {w : World} {g : Nat} {x y : Xp} {bo co : Option Addr} {k k' : Nat} (hg : S g) (h : w.heap[g]? = some (.cells #[.int .i64 x.op, .int .i64 x.n, .string x.nm, .slice bo x.args.length k, .int .i64 y.op, .int .i64 y.n, .string y.nm, .slice co y.args.length k'] 34 (0, 0))) (hx : x.args.length ≤ k) (hy : y.args.length ≤ k') (ex : ExL S w x.args bo) (ey : ExL S w y.args co) : ExL S w [x, y] (some ⟨g, 0, none⟩) := by
  refine fun _ => ⟨_, rfl, hg, ExR.mk fun i u hu => ?_⟩
  have ea : ∀ j, (⟨g, 0, none⟩ : Addr).add j = ⟨g, j, none⟩ := fun j => by unfold Addr.add; split <;> simp_all
  rw [ea]
  match i, hu with
  | 0, hu =>
    simp at hu
    subst hu
    exact ⟨bo, k, hx, ⟨cell_blk h 0, cell_blk h 1, cell_blk h 2, cell_blk h 3⟩, ex⟩
  | 1, hu =>
    simp at hu
    subst hu
    exact ⟨co, k', hy, ⟨cell_blk h 4, cell_blk h 5, cell_blk h 6, cell_blk h 7⟩, ey⟩
theorem no_list (S : Nat → Prop) (w : World) (ao : Option Addr) : ExL S w [] ao := fun h => absurd rfl h
def pOps (o a b : Int) : Prop := o = 15 ∨ o = 16
theorem pOps_worked : ∀ o a b, pOps o a b → ∀ w, Calls Try.prog 93 #[.int .i64 o, .int .i64 a, .int .i64 b] w fun e w' => e = .returned (vlV (wkV o a b)) ∧ Below w.heap.size w w' := by
  rintro o a b (rfl | rfl) w
  · exact worked_15 a b w
  · exact worked_16 a b w
theorem both_fit : xBoth.fit := by
  simp [xBoth, xSee, xDay, Xp.fit, Xp.fit.fits, maxLen, ByteArray.size]
theorem both_thin : xBoth.thin := by
  simp [xBoth, xSee, xDay, Xp.thin, Xp.thin.thins]
theorem both_dep : xBoth.dep ≤ 900 := by decide
theorem both_wok (sn : ByteArray → Option Fx) (day : Int) : xBoth.wok pOps sn day := by
  simp [xBoth, xSee, xDay, Xp.wok, Xp.wok.woks, Xp.ev.evs, wokN, pOps]
theorem both_has : xBoth.has = true := by decide +kernel
theorem both_5 : xBoth.evl (fun s => seenF 5 s []) 5 = ⟨2, 0, false⟩ := by
  unfold Xp.evl
  rw [if_pos both_has]
  rfl
theorem both_19723 : xBoth.evl (fun s => seenF 19723 s []) 19723 = ⟨0, 0, false⟩ := by
  unfold Xp.evl
  rw [if_pos both_has]
  rfl
theorem list_box (cs : Array Value) (v0 v1 v2 v3 : Value) (T : TypeId) (w : World) : ∀ W, (w.alloc (.cells cs T)).alloc (.cells #[v0, v1, v2, v3] T) = W → Below w.heap.size w W ∧ W.heap[w.heap.size]? = some (.cells cs T (0, 0)) ∧ W.heap[w.heap.size + 1]? = some (.cells #[v0, v1, v2, v3] T (0, 0)) ∧ W.heap.size = w.heap.size + 2 := by
  rintro W rfl
  have k1 := (Below.refl w.heap.size w).alloc (Nat.le_refl _) (.cells cs T)
  have s1 : (w.alloc (.cells cs T)).heap.size = w.heap.size + 1 := by simp
  have k2 := (Below.refl (w.alloc (.cells cs T)).heap.size (w.alloc (.cells cs T))).alloc (Nat.le_refl _) (.cells #[v0, v1, v2, v3] T)
  refine ⟨below_mono k1 k2 (Nat.le_refl _), (k2.block _ (by omega)).trans (heap_alloc_new w _), ?_, by simp [s1]⟩
  rw [← s1]
  exact heap_alloc_new _ _
set_option maxRecDepth 100000 in
set_option maxHeartbeats 8000000 in
theorem awake_any (w : World) : Calls Try.prog 34 #[] w fun e w' => e = .returned (.bool true) ∧ Below w.heap.size w w' := by
  have GA := Lib.hid (list_box cSee (.int .i64 16) (.int .i64 0) (.string ⟨#[]⟩) (.slice (some ⟨w.heap.size, 0, none⟩) 2 2) 34 w)
  go_enter Try.func34, Try.ntmps34
  obtain ⟨⟨r0, r1, r2, r3⟩, p0, p1, p2, p3⟩ := new_zero (w.alloc (.cells cSee 34)) (.int .i64 0) (.int .i64 0) (.string ⟨#[]⟩) (.slice none 0 0) 34
  go_upto_region 2 with fail
  clear r0 r1 r2 r3 p0 p1 p2 p3
  obtain ⟨z, hz⟩ : ∃ z, z = w.heap.size := ⟨_, rfl⟩
  rw [← hz] at GA
  rw [← hz]
  obtain ⟨W1, hW1⟩ : ∃ X, (w.alloc (.cells cSee 34)).alloc (.cells #[.int .i64 16, .int .i64 0, .string ⟨#[]⟩, .slice (some ⟨z, 0, none⟩) 2 2] 34) = X := ⟨_, rfl⟩
  obtain ⟨g1, b1, b2, sz1⟩ := GA.out W1 hW1
  rw [hW1]
  have HG1 : Hid (Below w.heap.size w W1 ∧ W1.heap[z]? = some (.cells cSee 34 (0, 0)) ∧ W1.heap[z + 1]? = some (.cells #[.int .i64 16, .int .i64 0, .string ⟨#[]⟩, .slice (some ⟨z, 0, none⟩) 2 2] 34 (0, 0)) ∧ z = w.heap.size ∧ W1.heap.size = z + 2) := Lib.hid ⟨hz ▸ g1, b1, b2, hz, sz1⟩
  clear g1 b1 b2 sz1 hW1 GA hz
  have GA := Lib.hid (list_box cDay (.int .i64 15) (.int .i64 0) (.string ⟨#[]⟩) (.slice (some ⟨W1.heap.size, 0, none⟩) 2 2) 34 W1)
  obtain ⟨⟨r0, r1, r2, r3⟩, p0, p1, p2, p3⟩ := new_zero (W1.alloc (.cells cDay 34)) (.int .i64 0) (.int .i64 0) (.string ⟨#[]⟩) (.slice none 0 0) 34
  go_upto_region 3 with fail
  clear r0 r1 r2 r3 p0 p1 p2 p3
  obtain ⟨y, hy⟩ : ∃ y, y = W1.heap.size := ⟨_, rfl⟩
  rw [← hy] at GA
  rw [← hy]
  obtain ⟨W2, hW2⟩ : ∃ X, (W1.alloc (.cells cDay 34)).alloc (.cells #[.int .i64 15, .int .i64 0, .string ⟨#[]⟩, .slice (some ⟨y, 0, none⟩) 2 2] 34) = X := ⟨_, rfl⟩
  obtain ⟨g1, b1, b2, sz1⟩ := GA.out W2 hW2
  rw [hW2]
  have HG2 : Hid (Below W1.heap.size W1 W2 ∧ W2.heap[y]? = some (.cells cDay 34 (0, 0)) ∧ W2.heap[y + 1]? = some (.cells #[.int .i64 15, .int .i64 0, .string ⟨#[]⟩, .slice (some ⟨y, 0, none⟩) 2 2] 34 (0, 0)) ∧ y = W1.heap.size ∧ W2.heap.size = y + 2) := Lib.hid ⟨hy ▸ g1, b1, b2, hy, sz1⟩
  clear g1 b1 b2 sz1 hW2 GA hy
  obtain ⟨l0, l1, l2, l3⟩ := quad HG2.out.2.2.1
  obtain ⟨m0, m1, m2, m3⟩ := quad ((HG2.out.1.block (z + 1) (by have := HG1.out.2.2.2.2; omega)).trans HG1.out.2.2.1)
  have GA := Lib.hid (list_box #[.int .i64 16, .int .i64 0, .string ⟨#[]⟩, .slice (some ⟨z, 0, none⟩) 2 2, .int .i64 15, .int .i64 0, .string ⟨#[]⟩, .slice (some ⟨y, 0, none⟩) 2 2] (.int .i64 17) (.int .i64 0) (.string ⟨#[]⟩) (.slice (some ⟨W2.heap.size, 0, none⟩) 2 2) 34 W2)
  obtain ⟨⟨r0, r1, r2, r3⟩, p0, p1, p2, p3⟩ := new_zero (W2.alloc (.cells #[.int .i64 16, .int .i64 0, .string ⟨#[]⟩, .slice (some ⟨z, 0, none⟩) 2 2, .int .i64 15, .int .i64 0, .string ⟨#[]⟩, .slice (some ⟨y, 0, none⟩) 2 2] 34)) (.int .i64 0) (.int .i64 0) (.string ⟨#[]⟩) (.slice none 0 0) 34
  go_upto_region 4 with fail
  clear r0 r1 r2 r3 p0 p1 p2 p3 l0 l1 l2 l3 m0 m1 m2 m3
  obtain ⟨v, hv⟩ : ∃ v, v = W2.heap.size := ⟨_, rfl⟩
  rw [← hv] at GA
  rw [← hv]
  obtain ⟨W3, hW3⟩ : ∃ X, (W2.alloc (.cells #[.int .i64 16, .int .i64 0, .string ⟨#[]⟩, .slice (some ⟨z, 0, none⟩) 2 2, .int .i64 15, .int .i64 0, .string ⟨#[]⟩, .slice (some ⟨y, 0, none⟩) 2 2] 34)).alloc (.cells #[.int .i64 17, .int .i64 0, .string ⟨#[]⟩, .slice (some ⟨v, 0, none⟩) 2 2] 34) = X := ⟨_, rfl⟩
  obtain ⟨g1, b1, b2, sz1⟩ := GA.out W3 hW3
  rw [hW3]
  have hz := HG1.out.2.2.2
  have hy := HG2.out.2.2.2
  have kz : W3.heap[z]? = some (.cells cSee 34 (0, 0)) := (g1.block z (by omega)).trans ((HG2.out.1.block z (by omega)).trans HG1.out.2.1)
  have ky : W3.heap[y]? = some (.cells cDay 34 (0, 0)) := (g1.block y (by omega)).trans HG2.out.2.1
  have HB3 : Hid (Below w.heap.size w W3) := Lib.hid (below_mono (below_mono HG1.out.1 HG2.out.1 (by omega)) (by rw [hv] at g1; exact g1) (by omega))
  have HX3 : Hid (W3.heap[v + 1]? = some (.cells #[.int .i64 17, .int .i64 0, .string ⟨#[]⟩, .slice (some ⟨v, 0, none⟩) 2 2] 34 (0, 0))) := Lib.hid b2
  have hxl : ExL (fun b => b < W3.heap.size) W3 xBoth.args (some ⟨v, 0, none⟩) :=
    two_list (by omega) b1 (Nat.le_refl 2) (Nat.le_refl 2) (two_list (by omega) kz (Nat.le_refl 0) (Nat.le_refl 0) (no_list _ _ _) (no_list _ _ _)) (two_list (by omega) ky (Nat.le_refl 0) (Nat.le_refl 0) (no_list _ _ _) (no_list _ _ _))
  have CE : Hid (∀ day W, Below W3.heap.size W3 W → Calls Try.prog 41 #[.agg #[.int .i64 17, .int .i64 0, .string ⟨#[]⟩, .slice (some ⟨v, 0, none⟩) 2 2], .agg #[.int .i64 day, .slice none 0 0]] W fun e w' => e = .returned (vlV (xBoth.evl (fun s => seenF day s []) day)) ∧ Below W.heap.size W w') := Lib.hid fun day W h =>
    evalOf_any (S := fun b => b < W3.heap.size) (R := fun _ => False) xBoth (some ⟨v, 0, none⟩) 2 W (fun b hb => Nat.lt_of_lt_of_le hb h.size) (fun b hb => hb.elim) (P := pOps) pOps_worked (F := []) (fa := none) (fc := 0) (day := day) (by simp) (Nat.le_refl 2) (hxl.stay (fun _ h => h) fun b hb => h.block b hb) both_fit both_thin both_dep (fun _ => both_wok _ _) (fun h => absurd rfl h)
  have C5 : Hid (Calls Try.prog 41 #[.agg #[.int .i64 17, .int .i64 0, .string ⟨#[]⟩, .slice (some ⟨v, 0, none⟩) 2 2], .agg #[.int .i64 5, .slice none 0 0]] W3 fun e w' => e = .returned (.agg #[.int .i64 2, .int .i64 0, .bool false]) ∧ Below W3.heap.size W3 w') := Lib.hid (by
    have := CE.out 5 W3 (Below.refl _ _)
    rw [both_5] at this
    exact this)
  have C19 : Hid (∀ W, Below W3.heap.size W3 W → Calls Try.prog 41 #[.agg #[.int .i64 17, .int .i64 0, .string ⟨#[]⟩, .slice (some ⟨v, 0, none⟩) 2 2], .agg #[.int .i64 19723, .slice none 0 0]] W fun e w' => e = .returned (.agg #[.int .i64 0, .int .i64 0, .bool false]) ∧ Below W.heap.size W w') := Lib.hid fun W hW => by
    have := CE.out 19723 W hW
    rw [both_19723] at this
    exact this
  clear CE hxl kz ky hz hy g1 b1 b2 sz1 hW3 hv HG1 HG2 GA
  obtain ⟨c0, c1, c2, c3⟩ := quad HX3.out
  have Q1 : ∀ V, (Op.equalIn 10000 73 (.agg #[.int .i64 2, .int .i64 0, .bool false]) (.agg #[.int .i64 2, .int .i64 0, .bool false])).run Try.prog V = .ok true V := fun V => eq_vl 2 0 2 0 false false V
  have Q2 : ∀ V, (Op.equalIn 10000 73 (.agg #[.int .i64 0, .int .i64 0, .bool false]) (.agg #[.int .i64 0, .int .i64 0, .bool false])).run Try.prog V = .ok true V := fun V => eq_vl 0 0 0 0 false false V
  go_wp2_with (first | (go_at_call 41; (with_reducible refine C5.out.mono ?_); rintro e w4 ⟨rfl, hb⟩; have HB4 := Lib.hid hb; clear hb C5; obtain ⟨d0, d1, d2, d3⟩ := quad ((HB4.out.block (v + 1) (lt_of_heap HX3.out)).trans HX3.out)) | (go_at_call 41; (with_reducible refine (C19.out _ HB4.out).mono ?_); rintro e w5 ⟨rfl, hb⟩; have HB5 := Lib.hid hb; clear hb))
  exact bodyPost_ret (v := .bool true) (by simp [results, Try.results34, go_sem]) rfl ⟨rfl, below_mono (below_mono HB3.out HB4.out (Nat.le_refl _)) HB5.out (Nat.le_refl _)⟩
end Go.Proofs.Ytidldlhhmophjaa
namespace Go.Proofs.Ytidldlhhmophjaa
open Go.RowKit Go.PlainAid
set_option linter.unusedVariables false
set_option linter.unusedSimpArgs false
def flat3 (l : List Fx) : List Value := l.flatMap fun f => [.string f.nm, .int .i64 f.day, .int .i64 f.val]
theorem flat3_len (l : List Fx) : (flat3 l).length = l.length * 3 := by
  induction l with
  | nil => rfl
  | cons q t ih => simp only [flat3, List.flatMap_cons, List.length_append, List.length_cons, List.length_nil] at ih ⊢; omega
theorem flat3_snoc (l : List Fx) (f : Fx) : flat3 (l ++ [f]) = flat3 l ++ [.string f.nm, .int .i64 f.day, .int .i64 f.val] := by simp [flat3]
theorem flat3_get : ∀ (l : List Fx) (i : Nat) (f : Fx), l[i]? = some f → ∀ k, k < 3 → (flat3 l)[i * 3 + k]? = [Value.string f.nm, .int .i64 f.day, .int .i64 f.val][k]?
  | [], i, q, h, k, hk => by simp at h
  | p :: t, 0, q, h, k, hk => by
    simp at h
    subst h
    rw [Nat.zero_mul, Nat.zero_add]
    simp only [flat3, List.flatMap_cons]
    rw [List.getElem?_append_left (by simpa using hk)]
  | p :: t, i + 1, q, h, k, hk => by
    have ih := flat3_get t i q (by simpa using h) k hk
    simp only [flat3, List.flatMap_cons] at ih ⊢
    rw [List.getElem?_append_right (by simp; omega)]
    simp only [List.length_cons, List.length_nil]
    rw [show (i + 1) * 3 + k - (0 + 1 + 1 + 1) = i * 3 + k from by omega]
    exact ih
/-- A row of the call's own that holds fixings. -/
def Row3 (w : World) (B : Nat) (v : Value) (l : List Fx) : Prop := w.ownsRow B 83 3 v l.length (flat3 l)
theorem Row3.nil (w : World) (B : Nat) : Row3 w B (.slice none 0 0) [] := World.ownsRow_nil w B _ 3
theorem Row3.stay {w w' : World} {B : Nat} {v : Value} {l : List Fx} (h : Row3 w B v l) (hg : ∀ g, v.ownBlock = some g → w'.heap[g]? = w.heap[g]?) : Row3 w' B v l := row_stay h hg
theorem Row3.lt {w : World} {B : Nat} {v : Value} {l : List Fx} (h : Row3 w B v l) {g : Nat} (hg : v.ownBlock = some g) : g < w.heap.size ∧ B ≤ g := by
  rcases h.2 with ⟨rfl, h0⟩ | ⟨g', cap, cur, rfl, hb, hgg, _⟩
  · cases hg
  · cases hg
    exact ⟨lt_of_heap hgg, hb⟩
theorem Row3.at {w : World} {B : Nat} {va : Option Addr} {n c : Nat} {l : List Fx} (h : Row3 w B (.slice va n c) l) : FxA (fun b => B ≤ b ∧ b < w.heap.size) va l w := by
  intro hl
  rcases h.2 with ⟨hv, h0⟩ | ⟨b, cp, cur, hv, hb, hg, hc, _, hsz, htk⟩
  · have : l = [] := List.length_eq_zero_iff.1 h0
    exact absurd this hl
  · injection hv with e1 e2 e3
    refine ⟨_, e1, ⟨hb, lt_of_heap hg⟩, fun i f hf => ?_⟩
    have hi := (List.getElem?_eq_some_iff.1 hf).1
    have hcell : ∀ k, k < 3 → w.cell? ⟨b, i * 3 + k, none⟩ = [Value.string f.nm, .int .i64 f.day, .int .i64 f.val][k]? := by
      intro k hk
      rw [cell_blk hg, ← flat3_get l i f hf k hk, ← htk, List.getElem?_take_of_lt (by omega)]
      simp
    have ea : ∀ j, (⟨b, 0, none⟩ : Addr).add j = ⟨b, j, none⟩ := fun j => by unfold Addr.add; split <;> simp_all
    rw [ea]
    exact ⟨hcell 0 (by omega), hcell 1 (by omega), hcell 2 (by omega)⟩
theorem fixInfo : (Try.prog.info? 83).map (fun i => (i.zero, i.size, i.bytes)) = some (some (.agg #[.string ⟨#[]⟩, .int .i64 0, .int .i64 0]), 3, 32) := by kernel_rfl
/-- append(l, f), of a fixing in a new block. -/
theorem step_appF {w : World} {ops : Array Oper} {o : Oper} {a : Act} {K : Act → World → Prop} {Q : Exit → Act → World → Prop} {E : Prop} (hgd : o.guard = none) (s x : Operand)
    (ho : o.op = .call { callee := .builtin .append, args := #[s, x], argTypes := #[61, 61] })
    (B : Nat) (v : Value) (l : List Fx) (hs : a.eval s = v) (hown : Row3 w B v l) (g : Nat) (t0 : ByteArray) (i1 i2 : Int) (hx : a.eval x = .slice (some ⟨g, 0, none⟩) 1 1)
    (hc : w.heap[g]? = some (.cells #[.string t0, .int .i64 i1, .int .i64 i2] 83 (0, 0))) (hl : l.length ≤ 1000) (hB : B ≤ w.heap.size)
    (h : ∀ g' cap w', Row3 w' B (.slice (some ⟨g', 0, none⟩) (l.length + 1) cap) (l ++ [⟨t0, i1, i2⟩]) → w.grownBy w' v.ownBlock → (v.ownBlock = some g' ∨ g' = w.heap.size) → g' < w'.heap.size → K (a.put o.dst (.slice (some ⟨g', 0, none⟩) (l.length + 1) cap)) w') :
    if Region.wanted o (yielded ops a.tmps) = true then Oper.wp Try.prog o a w K Q else E := by
  obtain ⟨i, hi, hz0, hz1, hz2⟩ := info_parts fixInfo
  refine step_append_lies w hgd s x 61 ho B 83 i (.agg #[.string ⟨#[]⟩, .int .i64 0, .int .i64 0]) 3 32 Try.underlying61 hi hz0 hz1 hz2 rfl (by decide) v l.length (flat3 l) hs hown ⟨g, 0, none⟩ 1 1 [.string t0, .int .i64 i1, .int .i64 i2] hx rfl ?_ ?_ (by decide) ?_ ?_ hB _ rfl ?_
  · intro j u hj
    match j, hj with
    | 0, hj => simp at hj; subst hj; exact cell_blk hc 0
    | 1, hj => simp at hj; subst hj; exact cell_blk hc 1
    | 2, hj => simp at hj; subst hj; exact cell_blk hc 2
  · intro u hu
    simp at hu
    rcases hu with rfl | rfl | rfl <;> rfl
  · unfold maxLen; omega
  · omega
  · intro g' cap w' h1 h2 h3 h4
    refine h g' cap w' ?_ h2 h3 h4
    unfold Row3
    rw [flat3_snoc, List.length_append]
    exact h1
theorem grown_rowF {W A C : World} {q : Nat} {row : Option Nat} (hA : W.grownBy A (some q)) (hC : A.grownBy C row) (h : ∀ g, row = some g → W.heap.size ≤ g) : W.grownBy C (some q) :=
  ⟨hC.os.trans hA.os, hC.tape.trans hA.tape, hC.output.trans hA.output, Nat.le_trans hA.size hC.size, fun k hk hne => (hC.block k (Nat.lt_of_lt_of_le hk hA.size) (fun e => by have := h k e.symm; omega)).trans (hA.block k hk hne)⟩
/-- The environment under way. -/
structure EnvB (W : World) (eb : Nat) (day : Int) (va : Option Addr) (n vc : Nat) (l : List Fx) (wr : World) : Prop where
  row : Row3 wr W.heap.size (.slice va n vc) l
  len : l.length = n
  grow : W.grownBy wr (some eb)
  box : wr.heap[eb]? = some (.cells #[.int .i64 day, .slice va n vc] 63 (0, 0))
theorem EnvB.next {W : World} {eb : Nat} {day : Int} {va : Option Addr} {n vc : Nat} {l : List Fx} {wr w' : World} (h : EnvB W eb day va n vc l wr) (k : Below wr.heap.size wr w') : EnvB W eb day va n vc l w' :=
  ⟨h.row.stay fun g hg => k.block g (h.row.lt hg).1, h.len, only_below h.grow k, (k.block eb (lt_of_heap h.box)).trans h.box⟩
theorem EnvB.app {W : World} {eb : Nat} {day : Int} {va : Option Addr} {n vc : Nat} {l : List Fx} {wA w5 : World} {f : Fx} {g' cap : Nat} (h : EnvB W eb day va n vc l wA) (hcb : eb < W.heap.size)
    (hown : Row3 w5 W.heap.size (.slice (some ⟨g', 0, none⟩) (n + 1) cap) (l ++ [f])) (hg : wA.grownBy w5 (Value.slice va n vc).ownBlock) (hor : (Value.slice va n vc).ownBlock = some g' ∨ g' = wA.heap.size) :
    EnvB W eb day (some ⟨g', 0, none⟩) (n + 1) cap (l ++ [f]) (w5.setCell ⟨eb, 1, none⟩ (.slice (some ⟨g', 0, none⟩) (n + 1) cap)) := by
  have hg' : g' ≠ eb := by
    rcases hor with e | e
    · have := (h.row.lt e).2; omega
    · have := h.grow.size; omega
  have hst : ∀ b, b ≠ eb → (w5.setCell ⟨eb, 1, none⟩ (.slice (some ⟨g', 0, none⟩) (n + 1) cap)).heap[b]? = w5.heap[b]? := fun b hb => Below.heap_setCell _ _ _ _ hb
  have hfar : ∀ g, (Value.slice va n vc).ownBlock = some g → W.heap.size ≤ g := fun g hg => (h.row.lt hg).2
  refine ⟨hown.stay (fun g hg => by cases hg; exact hst _ hg'), by rw [List.length_append, h.len]; rfl, ?_, ?_⟩
  · exact only_set (grown_rowF h.grow hg hfar)
  · have hb5 : w5.heap[eb]? = some (.cells #[.int .i64 day, .slice va n vc] 63 (0, 0)) := (hg.block eb (Nat.lt_of_lt_of_le hcb h.grow.size) (fun e => by have := hfar eb e.symm; omega)).trans h.box
    exact heap_set_at (i := 1) _ hb5
/-- What env gives. -/
def EnvP (day : Int) (l : List Fx) (n : Nat) (w : World) (e : Ending) (w' : World) : Prop := (∃ a c, e = .returned (.agg #[.int .i64 day, .slice a n c]) ∧ FxA (fun b => w.heap.size ≤ b ∧ b < w'.heap.size) a l w') ∧ Below w.heap.size w w'
theorem env_made (e0 e1 : Value) (day : Int) (w : World) : ∀ W, ((w.alloc (.cells #[e0, e1] 58)).alloc (.cells #[.int .i64 0, .slice none 0 0] 63)).alloc (.cells #[.int .i64 day, .slice none 0 0] 63) = W → Below w.heap.size w W ∧ W.heap[w.heap.size]? = some (.cells #[e0, e1] 58 (0, 0)) ∧ W.heap[w.heap.size + 1]? = some (.cells #[.int .i64 0, .slice none 0 0] 63 (0, 0)) ∧ W.heap[w.heap.size + 1 + 1]? = some (.cells #[.int .i64 day, .slice none 0 0] 63 (0, 0)) := by
  rintro W rfl
  obtain ⟨k1, b1, s1⟩ := two_made e0 e1 58 w _ rfl
  obtain ⟨k2, b2, s2⟩ := two_made (.int .i64 0) (.slice none 0 0) 63 (w.alloc (.cells #[e0, e1] 58)) _ rfl
  obtain ⟨k3, b3, s3⟩ := two_made (.int .i64 day) (.slice none 0 0) 63 ((w.alloc (.cells #[e0, e1] 58)).alloc (.cells #[.int .i64 0, .slice none 0 0] 63)) _ rfl
  refine ⟨below_mono (below_mono k1 k2 (Nat.le_refl _)) k3 (Nat.le_refl _), (k3.block _ (by omega)).trans ((k2.block _ (by omega)).trans b1), (k3.block _ (by omega)).trans ?_, ?_⟩
  · rw [← s1]; exact b2
  · rw [show w.heap.size + 1 + 1 = ((w.alloc (.cells #[e0, e1] 58)).alloc (.cells #[.int .i64 0, .slice none 0 0] 63)).heap.size from by omega]; exact b3
theorem two_zero (w : World) (x0 x1 : Value) (T : TypeId) : ((w.alloc (.cells #[x0, x1] T)).cell? ⟨w.heap.size, 0, none⟩ = some x0 ∧ (w.alloc (.cells #[x0, x1] T)).cell? ⟨w.heap.size, 1, none⟩ = some x1) ∧ (w.alloc (.cells #[x0, x1] T)).frozen? ⟨w.heap.size, 0, none⟩ = false ∧ (w.alloc (.cells #[x0, x1] T)).frozen? ⟨w.heap.size, 1, none⟩ = false :=
  ⟨⟨World.cell?_alloc_at _ _ _ _ rfl, World.cell?_alloc_at _ _ _ _ rfl⟩, World.frozen?_alloc_at _ _ _ _ rfl, World.frozen?_alloc_at _ _ _ _ rfl⟩
/-- What env gives, as a row of its own. -/
def EnvR (day : Int) (l : List Fx) (n : Nat) (w : World) (e : Ending) (w' : World) : Prop := (∃ a c, e = .returned (.agg #[.int .i64 day, .slice a n c]) ∧ Row3 w' w.heap.size (.slice a n c) l) ∧ Below w.heap.size w w'
theorem row3_lower {w : World} {B C : Nat} {v : Value} {l : List Fx} (h : Row3 w B v l) (hb : C ≤ B) : Row3 w C v l := ⟨h.1, h.2.imp id fun ⟨g, cap, cur, hv, hg, r⟩ => ⟨g, cap, cur, hv, Nat.le_trans hb hg, r⟩⟩
set_option maxRecDepth 100000 in
set_option maxHeartbeats 8000000 in
theorem env_row {R : Nat → Prop} {ao : Option Addr} {l : List Fx} {cap : Nat} (day : Int) (w : World) (h : FxA R ao l w) (hl : l.length ≤ 200) (hR : ∀ b, R b → b < w.heap.size) :
    Calls Try.prog 36 #[.agg #[.int .i64 day, .slice ao l.length cap]] w (EnvR day l l.length w) := by
  obtain ⟨m, hm⟩ : ∃ m, m = l.length := ⟨_, rfl⟩
  rw [← hm]
  have GA := Lib.hid (env_made (.int .i64 day) (.slice ao m cap) day w)
  have HX : Hid (∀ W, Below w.heap.size w W → FxA R ao l W) := Lib.hid fun W hW => h.stay (fun _ h => h) fun b hb => hW.block b (hR b hb)
  have HM := Lib.hid hm
  have hm6 : m ≤ 200 := by omega
  obtain ⟨W1, hW1⟩ : ∃ X, (w.alloc (.cells #[.int .i64 day, .slice ao m cap] 58)).alloc (.cells #[.int .i64 0, .slice none 0 0] 63) = X := ⟨_, rfl⟩
  have h1 : ((w.alloc (.cells #[.int .i64 day, .slice ao m cap] 58)).alloc (.cells #[.int .i64 0, .slice none 0 0] 63)).cell? ⟨w.heap.size, 0, none⟩ = some (.int .i64 day) := by
    obtain ⟨k1, b1, s1⟩ := two_made (.int .i64 day) (.slice ao m cap) 58 w _ rfl
    obtain ⟨k2, b2, s2⟩ := two_made (.int .i64 0) (.slice none 0 0) 63 (w.alloc (.cells #[.int .i64 day, .slice ao m cap] 58)) _ rfl
    exact cell_blk ((k2.block _ (by omega)).trans b1) 0
  obtain ⟨⟨r0, r1⟩, p0, p1⟩ := two_zero ((w.alloc (.cells #[.int .i64 day, .slice ao m cap] 58)).alloc (.cells #[.int .i64 0, .slice none 0 0] 63)) (.int .i64 0) (.slice none 0 0) 63
  clear h hl hm hR hW1
  go_enter Try.func36, Try.ntmps36
  go_upto_region 2 with fail
  clear h1 r0 r1 p0 p1
  obtain ⟨W, hW⟩ : ∃ X, ((w.alloc (.cells #[.int .i64 day, .slice ao m cap] 58)).alloc (.cells #[.int .i64 0, .slice none 0 0] 63)).alloc (.cells #[.int .i64 day, .slice none 0 0] 63) = X := ⟨_, rfl⟩
  obtain ⟨g1, b1, b2, b3⟩ := GA.out W hW
  obtain ⟨z, hz⟩ : ∃ z, z = w.heap.size := ⟨_, rfl⟩
  rw [← hz] at b1 b2 b3
  rw [hW, ← hz]
  have HG := Lib.hid g1
  have HB1 := Lib.hid b1
  have HB2 := Lib.hid b2
  have HE0 : Hid (EnvB W (z + 1 + 1) day none 0 0 [] W) := Lib.hid ⟨Row3.nil _ _, rfl, World.grownBy.refl W _, b3⟩
  have HZ := Lib.hid (show z = w.heap.size ∧ z + 1 + 1 < W.heap.size from ⟨hz, lt_of_heap b3⟩)
  clear hW b1 b2 b3 g1 GA hz
  go_upto_region 3 with fail
  go_loopw [4] (fun v wr => ∃ (j : Nat) (va : Option Addr) (vc : Nat), j ≤ m ∧ v = .int .i64 j ∧ Hid (EnvB W (z + 1 + 1) day va j vc (l.take j) wr)) (fun v _ => m - (intOf v).toNat)
  case atStart => exact ⟨0, none, 0, by omega, rfl, HE0⟩
  case round =>
    obtain ⟨j, va, vc, hj, rfl, HE⟩ := hrel
    have HBW : Hid (Below w.heap.size w wr) := Lib.hid (HG.out.grown HE.out.grow HG.out.size (fun g hg => by cases hg; have := HZ.out; omega))
    have HZ1 : Hid (wr.heap[z]? = some (.cells #[.int .i64 day, .slice ao m cap] 58 (0, 0))) := Lib.hid ((HE.out.grow.block z (lt_of_heap HB1.out) (by intro e; injection e with e; omega)).trans HB1.out)
    have HZ2 : Hid (wr.heap[z + 1]? = some (.cells #[.int .i64 0, .slice none 0 0] 63 (0, 0))) := Lib.hid ((HE.out.grow.block (z + 1) (lt_of_heap HB2.out) (by intro e; injection e with e; omega)).trans HB2.out)
    obtain ⟨e0, e1⟩ := duo HZ1.out
    have j0 : (0 : Int) ≤ (j : Int) := by omega
    by_cases hlt : j < m
    · obtain ⟨f, hf⟩ : ∃ f, l[j]? = some f := ⟨_, List.getElem?_eq_getElem (by rw [← HM.out]; exact hlt)⟩
      obtain ⟨a, rfl, hra, y0, y1, y2⟩ := (HX.out wr HBW.out).get hf
      have HTK : Hid (l.take (j + 1) = l.take j ++ [f]) := Lib.hid (by rw [List.take_add_one, hf]; rfl)
      obtain ⟨fs, hfs⟩ : ∃ v, v = f.nm := ⟨_, rfl⟩
      obtain ⟨fd, hfd⟩ : ∃ v, v = f.day := ⟨_, rfl⟩
      obtain ⟨fv, hfv⟩ : ∃ v, v = f.val := ⟨_, rfl⟩
      have HFF : Hid (f = ⟨fs, fd, fv⟩) := Lib.hid (by rw [hfs, hfd, hfv])
      rw [← hfs] at y0
      rw [← hfd] at y1
      rw [← hfv] at y2
      have j1 : (j : Int) < (m : Int) := by omega
      have b1 := cell_blk HE.out.box 1
      simp only [List.getElem?_toArray] at b1
      have c1 : wr.cell? ⟨z + 1 + 1, 1, none⟩ = some (.slice va j vc) := cell_blk HE.out.box 1
      have f1 : wr.frozen? ⟨z + 1 + 1, 1, none⟩ = false := free_blk HE.out.box 1
      have HA4 := Lib.hid ((Below.refl wr.heap.size wr).alloc (Nat.le_refl _) (.cells #[.string fs, .int .i64 fd, .int .i64 fv] 83))
      have H4A : Hid ((wr.alloc (.cells #[.string fs, .int .i64 fd, .int .i64 fv] 83)).drew.heap[wr.heap.size]? = some (.cells #[.string fs, .int .i64 fd, .int .i64 fv] 83 (0, 0))) := Lib.hid (heap_alloc_new wr (.cells #[.string fs, .int .i64 fd, .int .i64 fv] 83))
      have HE4 : Hid (EnvB W (z + 1 + 1) day va j vc (l.take j) (wr.alloc (.cells #[.string fs, .int .i64 fd, .int .i64 fv] 83)).drew) := Lib.hid (HE.out.next HA4.out.drew)
      have c1a : (wr.alloc (.cells #[.string fs, .int .i64 fd, .int .i64 fv] 83)).cell? ⟨z + 1 + 1, 1, none⟩ = some (.slice va j vc) := cell_blk HE4.out.box 1
      clear hfs hfd hfv hf hra b1
      go_upto_region 5 with fail
      go_region_law (refine step_appF rfl _ _ rfl W.heap.size (.slice va j vc) _ rfl HE4.out.row wr.heap.size fs fd fv rfl H4A.out (by rw [HE4.out.len]; omega) HE4.out.grow.size ?_; rw [HE4.out.len]; intro g' cap' w5 hown hgr hor hgl; have HR5 := Lib.hid hown; have HG5 := Lib.hid hgr; have HO5 := Lib.hid hor; have HX5 := Lib.hid ((hgr.block (z + 1 + 1) (lt_of_heap HE4.out.box) (by intro e; have := (HE4.out.row.lt e.symm).2; have := HZ.out; omega)).trans HE4.out.box); have e5 : w5.cell? ⟨z + 1 + 1, 1, none⟩ = some (.slice va j vc) := cell_blk HX5.out 1; have f5 : w5.frozen? ⟨z + 1 + 1, 1, none⟩ = false := free_blk HX5.out 1; clear hown hgr hor hgl)
      all_goals
        go_wp2_with fail
        rw [← HFF.out] at HR5
        refine ⟨⟨j + 1, some ⟨g', 0, none⟩, cap', by omega, by go_num, ?_⟩, by simp [intOf]; omega⟩
        rw [HTK.out]
        exact Lib.hid (HE4.out.app HZ.out.2 HR5.out HG5.out HO5.out)
    · obtain rfl : j = m := by omega
      have HT : Hid (l.take j = l) := Lib.hid (List.take_of_length_le (by rw [HM.out]; exact Nat.le_refl _))
      rw [HT.out] at HE
      have j1 : ¬ (j : Int) < (j : Int) := by omega
      obtain ⟨c0, c1⟩ := duo HE.out.box
      obtain ⟨r0, r1⟩ := duo HZ2.out
      have p0 : wr.frozen? ⟨z + 1, 0, none⟩ = false := free_blk HZ2.out 0
      have p1 : wr.frozen? ⟨z + 1, 1, none⟩ = false := free_blk HZ2.out 1
      go_wp2_with fail
      obtain ⟨W9, hW9⟩ : ∃ X, ((wr.setCell ⟨z + 1, 0, none⟩ (.int .i64 day)).setCell ⟨z + 1, 1, none⟩ (.slice va j vc)) = X := ⟨_, rfl⟩
      have x9 : W9.heap[z + 1]? = some (.cells #[.int .i64 day, .slice va j vc] 63 (0, 0)) := by
        rw [← hW9]
        exact heap_set_at (i := 1) _ (heap_set_at (i := 0) (.int .i64 day) HZ2.out)
      have f9 : ∀ b, b ≠ z + 1 → W9.heap[b]? = wr.heap[b]? := fun b hb => by
        rw [← hW9]
        exact (Below.heap_setCell _ _ _ _ hb).trans (Below.heap_setCell _ _ _ _ hb)
      have s9 : W9.heap.size = wr.heap.size := by rw [← hW9]; simp
      have k9 : Below w.heap.size w W9 := by
        rw [← hW9]
        have hz1 : w.heap.size ≤ z + 1 := by have := HZ.out; omega
        exact (HBW.out.setCell (p := ⟨z + 1, 0, none⟩) hz1 _).setCell (p := ⟨z + 1, 1, none⟩) hz1 _
      rw [hW9]
      obtain ⟨d0, d1⟩ := duo x9
      have hfin : EnvR day l j w (.returned (.agg #[.int .i64 day, .slice va j vc])) W9 := ⟨⟨va, vc, rfl, row3_lower (HE.out.row.stay fun g hg => f9 g (by have h1 := (HE.out.row.lt hg).2; have h2 := HZ.out.2; omega)) HG.out.size⟩, k9⟩
      exact bodyPost_ret (v := .agg #[.int .i64 day, .slice va j vc]) (by simp [results, Try.results36, go_sem, d0, d1]) rfl hfin
theorem env_any {R : Nat → Prop} {ao : Option Addr} {l : List Fx} {cap : Nat} (day : Int) (w : World) (h : FxA R ao l w) (hl : l.length ≤ 200) (hR : ∀ b, R b → b < w.heap.size) :
    Calls Try.prog 36 #[.agg #[.int .i64 day, .slice ao l.length cap]] w (EnvP day l l.length w) :=
  (env_row day w h hl hR).mono fun e w' ⟨⟨a, c, he, hr⟩, hb⟩ => ⟨⟨a, c, he, hr.at⟩, hb⟩
end Go.Proofs.Ytidldlhhmophjaa
namespace Go.Proofs.Ytidldlhhmophjaa
open Go.ChangeShapes Go.WideShapes Go.RowKit Go.Deep Go.WideElems Go.Maps
set_option linter.unusedVariables false
section
variable {H : Type} {enc : TypeId × Value → H} {P : Program} {w : World} {base : Nat} {spare : Nat → Bool} {held : Bool}
theorem duet {α : Type} {cs : Array α} (h : cs.size = 2) : ∃ c0 c1, cs = #[c0, c1] := by
  obtain ⟨l⟩ := cs
  match l, h with
  | [c0, c1], _ => exact ⟨c0, c1, rfl⟩
/-- The fields' own readings. -/
theorem open_duet {r : Reach} {b0 : Nat} {t : TypeId} {f0 f1 : Field} {v : Value} {d : DataW H} {p : List MemPlace} (hs : P.underlying t = some (.struct #[f0, f1])) (hone : oneCellFields P #[f0, f1] = true) (hC : P.cellsOf t = 2)
    (hv : Value.okWide P w r b0 t v) (h : DataW.Trod enc P w base spare held t v d p) :
    ∃ (v0 v1 : Value) (y0 y1 : DataW H × List MemPlace) (n : Nat), v = .agg #[v0, v1] ∧
      DataW.trod enc P w base spare held n f0.type [v0] = some y0 ∧ DataW.trod enc P w base spare held n f1.type [v1] = some y1 := by
  obtain ⟨cs, rfl, hsz⟩ := okWide_struct hs hv
  obtain ⟨c0, c1, rfl⟩ := duet (hsz.trans hC)
  obtain ⟨fuel, hf⟩ := h
  obtain ⟨xs, n, _, _, hl, hlen, hf⟩ := DataW.trod_struct hs hf
  match xs, hlen with
  | [y0, y1], _ =>
    obtain ⟨o0, k0⟩ := hone_of hone 0 f0 rfl
    obtain ⟨o1, k1⟩ := hone_of hone 1 f1 rfl
    have h0 := hf 0 f0 rfl
    have h1 := hf 1 f1 rfl
    exact ⟨c0, c1, y0, y1, n, rfl, by simpa [Value.cells, o0, k0] using h0, by simpa [Value.cells, o1, k1] using h1⟩
end
set_option maxRecDepth 100000 in
theorem fixings_cells {H : Type} {enc : TypeId × Value → H} {W : World} {v : Value} {fuel : Nat} {y : DataW H × List MemPlace}
    (hf : DataW.trod enc Try.prog W 0 (fun _ => true) true fuel 56 [v] = some y) :
    ∃ ao cap, ∃ xs : List Fx, v = .slice ao xs.length cap ∧ xs.length ≤ cap ∧ cap ≤ maxLen ∧ FxA (fun b => b < W.heap.size) ao xs W := by
  rcases open_slice_fields Try.underlying56 Try.underlying80 (by kernel_rfl) (by
      intro j f hj
      match j, hj with
      | 0, hj => cases hj; exact ⟨rfl, by kernel_rfl⟩
      | 1, hj => cases hj; exact ⟨rfl, by kernel_rfl⟩
      | 2, hj => cases hj; exact ⟨rfl, by kernel_rfl⟩
      | j + 3, hj => simp at hj) hf with hcs | ⟨a, len, cap, hcs, hl, hm, hcell⟩
  · simp at hcs
    subst hcs
    exact ⟨none, 0, [], rfl, by simp, by unfold maxLen; omega, fun h => absurd rfl h⟩
  · simp at hcs
    subst hcs
    have each : ∀ i, i < len → ∃ q : Fx, W.cell? (a.add (i * 3)) = some (.string q.nm) ∧ W.cell? (a.add (i * 3 + 1)) = some (.int .i64 q.day) ∧ W.cell? (a.add (i * 3 + 2)) = some (.int .i64 q.val) := by
      intro i hi
      obtain ⟨v0, n0, y0, c0, t0⟩ := hcell i hi 0 _ rfl
      obtain ⟨v1, n1, y1, c1, t1⟩ := hcell i hi 1 _ rfl
      obtain ⟨v2, n2, y2, c2, t2⟩ := hcell i hi 2 _ rfl
      obtain ⟨x0, e0, _, w0⟩ := DataW.trod_string Try.underlying9 t0
      obtain ⟨x1, e1, _, w1⟩ := DataW.trod_int Try.underlying3 t1
      obtain ⟨x2, e2, _, w2⟩ := DataW.trod_int Try.underlying2 t2
      simp at e0 e1 e2
      subst e0 e1 e2
      exact ⟨⟨x0, x1, x2⟩, c0, c1, c2⟩
    obtain ⟨q, hq⟩ := choose_to each ⟨ByteArray.empty, 0, 0⟩
    refine ⟨some a, cap, (List.range len).map q, by simp, by simpa using hl, hm, fun hne => ⟨a, rfl, ?_, fun i x hx => ?_⟩⟩
    · have hlen : 0 < len := by
        rcases Nat.eq_zero_or_pos len with h | h
        · subst h; simp at hne
        · exact h
      have := World.block_lt_of_cell? _ _ (hq 0 hlen).1
      rwa [add_block] at this
    · have hi : i < len := by
        rcases Nat.lt_or_ge i len with h | h
        · exact h
        · rw [List.getElem?_eq_none (by simpa using h)] at hx; simp at hx
      rw [List.getElem?_map, List.getElem?_range hi] at hx
      cases hx
      obtain ⟨c0, c1, c2⟩ := hq i hi
      have e2 : ∀ k, 0 < k → (⟨(a.add (i * 3)).block, (a.add (i * 3)).off + k, none⟩ : Addr) = a.add (i * 3 + k) := fun k hk => by unfold Addr.add; split <;> split <;> simp_all <;> omega
      exact ⟨c0, by rw [e2 1 (by omega)]; exact c1, by rw [e2 2 (by omega)]; exact c2⟩
end Go.Proofs.Ytidldlhhmophjaa
