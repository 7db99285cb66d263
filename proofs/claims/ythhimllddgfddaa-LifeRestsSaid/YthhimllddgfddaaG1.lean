/- Texts of this seat, one behind the other. Conditions: those written at each theorem. -/
import Derived.Test.YthhimllddgfddaaCkP
import Derived.Test.YthhimllddgfddaaTrK
import Derived.Deep.CutBlock
import Derived.Deep.RegionHeld3
import Derived.Lib.QuietBelow
import Derived.BigQuiet
import Derived.Test.YthhimllddgfddaaTrJ
import Derived.Deep.RegionLaw
import Derived.Test.YthhimllddgfddaaTrQ
import Derived.Test.YthhimllddgfddaaTrT
import Derived.Deep.AppendLies
import Derived.Lib.BufferMore
import Derived.Shelf.Small.Bits
import Derived.Shelf.Strconv.Itoa0
import Derived.Shelf.Bits.Mul64
import Derived.Test.YthhimllddgfddaaProg
namespace Go.Proofs.Ythhimllddgfddaa
open Go.RowKit Go.PlainAid
set_option linter.unusedVariables false
set_option linter.unusedSimpArgs false
/-- A fixing. -/
structure Fx where
  nm : ByteArray
  day : Int
  val : Int
def Three (w : World) (a : Addr) (v0 v1 v2 : Value) : Prop := w.cell? a = some v0 ∧ w.cell? ⟨a.block, a.off + 1, none⟩ = some v1 ∧ w.cell? ⟨a.block, a.off + 2, none⟩ = some v2
/-- Fixings in memory, in blocks of R. -/
def FxA (R : Nat → Prop) (ao : Option Addr) (l : List Fx) (w : World) : Prop := l ≠ [] → ∃ a, ao = some a ∧ R a.block ∧ ∀ (i : Nat) f, l[i]? = some f → Three w (a.add (i * 3)) (.string f.nm) (.int .i64 f.day) (.int .i64 f.val)
theorem FxA.get {R : Nat → Prop} {ao : Option Addr} {l : List Fx} {w : World} (h : FxA R ao l w) {i : Nat} {f : Fx} (hf : l[i]? = some f) : ∃ a, ao = some a ∧ R a.block ∧ Three w (a.add (i * 3)) (.string f.nm) (.int .i64 f.day) (.int .i64 f.val) := by
  obtain ⟨a, h1, h2, h3⟩ := h (by intro e; rw [e] at hf; simp at hf)
  exact ⟨a, h1, h2, h3 i f hf⟩
theorem Three.stay {w w' : World} {a : Addr} {v0 v1 v2 : Value} (h : Three w a v0 v1 v2) (hb : w'.heap[a.block]? = w.heap[a.block]?) : Three w' a v0 v1 v2 :=
  ⟨(cell_heap hb).trans h.1, (cell_heap (a := ⟨a.block, a.off + 1, none⟩) hb).trans h.2.1, (cell_heap (a := ⟨a.block, a.off + 2, none⟩) hb).trans h.2.2⟩
theorem FxA.stay {R T : Nat → Prop} {w w' : World} {l : List Fx} {ao : Option Addr} (h : FxA R ao l w) (hT : ∀ b, R b → T b) (hS : ∀ b, R b → w'.heap[b]? = w.heap[b]?) : FxA T ao l w' := by
  intro hl
  obtain ⟨a, h1, h2, h3⟩ := h hl
  exact ⟨a, h1, hT _ h2, fun i f hf => (h3 i f hf).stay (by rw [add_block]; exact hS _ h2)⟩
def later (b : Option Fx) (f : Fx) : Bool := match b with | none => true | some g => decide (g.day < f.day)
theorem later_some (g f : Fx) : later (some g) f = decide (g.day < f.day) := rfl
/-- The fixing that counts. -/
def stepF (day : Int) (nm : ByteArray) (b : Option Fx) (f : Fx) : Option Fx :=
  if f.nm.toList = nm.toList ∧ f.day ≤ day ∧ later b f = true then some f else b
def seenF (day : Int) (nm : ByteArray) (l : List Fx) : Option Fx := l.foldl (stepF day nm) none
theorem seenF_snoc (day : Int) (nm : ByteArray) (l : List Fx) (f : Fx) : seenF day nm (l ++ [f]) = stepF day nm (seenF day nm l) f := by simp [seenF, List.foldl_append]
def snV (b : Option Fx) : Int := match b with | none => 0 | some f => f.val
def snB (b : Option Fx) : Bool := b.isSome
/-- A box of two, of three. -/
theorem two_made (v0 v1 : Value) (T : TypeId) (w : World) : ∀ W, w.alloc (.cells #[v0, v1] T) = W → Below w.heap.size w W ∧ W.heap[w.heap.size]? = some (.cells #[v0, v1] T (0, 0)) ∧ W.heap.size = w.heap.size + 1 := by
  rintro W rfl
  exact ⟨(Below.refl w.heap.size w).alloc (Nat.le_refl _) _, heap_alloc_new w _, by simp⟩
theorem three_made (v0 v1 v2 : Value) (T : TypeId) (w : World) : ∀ W, w.alloc (.cells #[v0, v1, v2] T) = W → Below w.heap.size w W ∧ W.heap[w.heap.size]? = some (.cells #[v0, v1, v2] T (0, 0)) ∧ W.heap.size = w.heap.size + 1 := by
  rintro W rfl
  exact ⟨(Below.refl w.heap.size w).alloc (Nat.le_refl _) _, heap_alloc_new w _, by simp⟩
theorem three_zero (w : World) (x0 x1 x2 : Value) (T : TypeId) : ((w.alloc (.cells #[x0, x1, x2] T)).cell? ⟨w.heap.size, 0, none⟩ = some x0 ∧ (w.alloc (.cells #[x0, x1, x2] T)).cell? ⟨w.heap.size, 1, none⟩ = some x1 ∧ (w.alloc (.cells #[x0, x1, x2] T)).cell? ⟨w.heap.size, 2, none⟩ = some x2) ∧ (w.alloc (.cells #[x0, x1, x2] T)).frozen? ⟨w.heap.size, 0, none⟩ = false ∧ (w.alloc (.cells #[x0, x1, x2] T)).frozen? ⟨w.heap.size, 1, none⟩ = false ∧ (w.alloc (.cells #[x0, x1, x2] T)).frozen? ⟨w.heap.size, 2, none⟩ = false :=
  ⟨⟨World.cell?_alloc_at _ _ _ _ rfl, World.cell?_alloc_at _ _ _ _ rfl, World.cell?_alloc_at _ _ _ _ rfl⟩, World.frozen?_alloc_at _ _ _ _ rfl, World.frozen?_alloc_at _ _ _ _ rfl, World.frozen?_alloc_at _ _ _ _ rfl⟩
theorem trio {w : World} {k : Nat} {c0 c1 c2 : Value} {t : TypeId} (h : w.heap[k]? = some (.cells #[c0, c1, c2] t (0, 0))) : w.cell? ⟨k, 0, none⟩ = some c0 ∧ w.cell? ⟨k, 1, none⟩ = some c1 ∧ w.cell? ⟨k, 2, none⟩ = some c2 := ⟨cell_blk h 0, cell_blk h 1, cell_blk h 2⟩
theorem duo {w : World} {k : Nat} {c0 c1 : Value} {t : TypeId} (h : w.heap[k]? = some (.cells #[c0, c1] t (0, 0))) : w.cell? ⟨k, 0, none⟩ = some c0 ∧ w.cell? ⟨k, 1, none⟩ = some c1 := ⟨cell_blk h 0, cell_blk h 1⟩
set_option maxRecDepth 100000 in
set_option maxHeartbeats 8000000 in
theorem seen_any {R : Nat → Prop} {ao : Option Addr} {l : List Fx} {cap : Nat} (day : Int) (nm : ByteArray) (w : World) (h : FxA R ao l w) (hl : l.length ≤ 200) (hR : ∀ b, R b → b < w.heap.size) :
    Calls Try.prog 74 #[.agg #[.int .i64 day, .slice ao l.length cap], .string nm] w fun e w' => e = .returned (.tuple #[.int .i64 (snV (seenF day nm l)), .bool (snB (seenF day nm l))]) ∧ Below w.heap.size w w' := by
  obtain ⟨m, hm⟩ : ∃ m, m = l.length := ⟨_, rfl⟩
  rw [← hm]
  obtain ⟨z, hz⟩ : ∃ z, z = w.heap.size := ⟨_, rfl⟩
  have GA := Lib.hid (two_made (.int .i64 day) (.slice ao m cap) 44 w)
  have HX : Hid (∀ W, Below w.heap.size w W → FxA R ao l W) := Lib.hid fun W hW => h.stay (fun _ h => h) fun b hb => hW.block b (hR b hb)
  have HM := Lib.hid hm
  have hm6 : m ≤ 200 := by omega
  have HAB : Hid (∀ b, R b → b < w.heap.size) := Lib.hid hR
  clear h hl hm hR
  go_enter Try.func74, Try.ntmps74
  go_upto_region 1 with fail
  obtain ⟨W, hW⟩ : ∃ X, w.alloc (.cells #[.int .i64 day, .slice ao m cap] 44) = X := ⟨_, rfl⟩
  obtain ⟨g1, b1, _⟩ := GA.out W hW
  rw [← hz] at b1
  rw [hW, ← hz]
  have HG := Lib.hid g1
  have HB1 := Lib.hid b1
  obtain ⟨c0, c1⟩ := duo b1
  clear hW b1 g1 GA hz
  go_upto_region 3 with fail
  go_loopw [6, 12] (fun av v wr => ∃ (j : Nat) (ai : Int), j ≤ m ∧ v = .int .i64 j ∧ av = .int .i64 ai ∧ ai < j ∧ Hid (ai = -1 ∧ seenF day nm (l.take j) = none ∨ ∃ (i : Nat) (g : Fx), ai = i ∧ l[i]? = some g ∧ seenF day nm (l.take j) = some g) ∧ Hid (Below W.heap.size W wr)) (fun _ v _ => m - (intOf v).toNat)
  case atStart => exact ⟨0, -1, by omega, rfl, rfl, by omega, Lib.hid (.inl ⟨rfl, rfl⟩), Lib.hid (Below.refl _ _)⟩
  case round =>
    obtain ⟨j, ai, hj, rfl, rfl, hai, HA, HR⟩ := hrel
    have HWR : Hid (Below w.heap.size w wr) := Lib.hid (below_mono HG.out HR.out (Nat.le_refl _))
    clear c0 c1
    by_cases hlt : j < m
    · obtain ⟨f, hf⟩ : ∃ f, l[j]? = some f := ⟨_, List.getElem?_eq_getElem (by rw [← HM.out]; exact hlt)⟩
      have HTK : Hid (seenF day nm (l.take (j + 1)) = stepF day nm (seenF day nm (l.take j)) f) := Lib.hid (by rw [List.take_add_one, hf]; exact seenF_snoc _ _ _ _)
      obtain ⟨a, rfl, hra, y0, y1, y2⟩ := (HX.out wr HWR.out).get hf
      have HFJ := Lib.hid hf
      obtain ⟨fs, hfs⟩ : ∃ v, v = f.nm := ⟨_, rfl⟩
      obtain ⟨fd, hfd⟩ : ∃ v, v = f.day := ⟨_, rfl⟩
      obtain ⟨fv, hfv⟩ : ∃ v, v = f.val := ⟨_, rfl⟩
      rw [← hfs] at y0
      rw [← hfd] at y1
      rw [← hfv] at y2
      have HFE := Lib.hid (And.intro hfs (And.intro hfd hfv))
      have j0 : (0 : Int) ≤ (j : Int) := by omega
      have j1 : (j : Int) < (m : Int) := by omega
      have HRA := Lib.hid hra
      obtain ⟨⟨r0, r1, r2⟩, p0, p1, p2⟩ := three_zero wr (.string ⟨#[]⟩) (.int .i64 0) (.int .i64 0) 73
      clear hfs hfd hfv hf hra
      go_upto_region 5 with fail
      clear r0 r1 r2 p0 p1 p2 y0 y1 y2
      obtain ⟨W3, hW3⟩ : ∃ X, wr.alloc (.cells #[.string fs, .int .i64 fd, .int .i64 fv] 73) = X := ⟨_, rfl⟩
      obtain ⟨k3, b3, s3⟩ := three_made _ _ _ _ wr W3 hW3
      obtain ⟨u, hu⟩ : ∃ u, u = wr.heap.size := ⟨_, rfl⟩
      rw [hW3, ← hu]
      rw [← hu] at b3
      have HB3 := Lib.hid (below_mono HR.out k3 (Nat.le_refl _))
      have HX3 := Lib.hid b3
      have HWZ := Lib.hid ((k3.block z (by have := lt_of_heap HB1.out; have := HR.out.size; omega)).trans ((HR.out.block z (lt_of_heap HB1.out)).trans HB1.out))
      obtain ⟨y0, y1, y2⟩ := trio b3
      obtain ⟨c0, c1⟩ := duo HWZ.out
      clear hW3 b3 k3 s3 hu
      by_cases hn : fs.toList = nm.toList
      · have f1 : (fs.toList == nm.toList) = true := by simp [hn]
        by_cases hd : fd ≤ day
        · rcases HA.out with ⟨rfl, hs⟩ | ⟨i, g, rfl, hg, hs⟩
          · have HN : Hid (seenF day nm (l.take (j + 1)) = some f) := Lib.hid (by
              rw [HTK.out, hs]
              unfold stepF
              rw [← HFE.out.1, ← HFE.out.2.1, if_pos ⟨hn, hd, rfl⟩])
            have HFJ2 := Lib.hid HFJ.out
            clear hs hn HA HTK
            go_quiet (fail)
            go_wp2_with fail
            refine ⟨⟨j + 1, j, by omega, by go_num, rfl, by omega, Lib.hid (.inr ⟨j, f, rfl, HFJ2.out, HN.out⟩), Lib.hid (below_drewN HB3.out _)⟩, by simp [intOf]; omega⟩
          · have hgl := (List.getElem?_eq_some_iff.1 hg).1
            obtain ⟨a', ha', _, g0, g1, g2⟩ := (HX.out W3 (below_mono HG.out HB3.out (Nat.le_refl _))).get hg
            cases ha'
            obtain ⟨gd, hgd⟩ : ∃ v, v = g.day := ⟨_, rfl⟩
            rw [← hgd] at g1
            have HGD := Lib.hid hgd
            have HS := Lib.hid hs
            have HGI := Lib.hid hg
            have i0 : (0 : Int) ≤ (i : Int) := by omega
            have i1 : (i : Int) < (m : Int) := by omega
            have i2 : ((i : Int) < 0) = False := by simp
            clear hgd hs hg HA hgl
            by_cases hlt2 : gd < fd
            · have HN : Hid (seenF day nm (l.take (j + 1)) = some f) := Lib.hid (by
                rw [HTK.out, HS.out]
                unfold stepF
                rw [if_pos ⟨by rw [← HFE.out.1]; exact hn, by rw [← HFE.out.2.1]; exact hd, by rw [later_some, ← HFE.out.2.1, ← HGD.out]; exact decide_eq_true hlt2⟩])
              have HFJ2 := Lib.hid HFJ.out
              clear hn HTK
              go_quiet (fail)
              go_wp2_with fail
              refine ⟨⟨j + 1, j, by omega, by go_num, rfl, by omega, Lib.hid (.inr ⟨j, f, rfl, HFJ2.out, HN.out⟩), Lib.hid (below_drewN HB3.out _)⟩, by simp [intOf]; omega⟩
            · have HN : Hid (seenF day nm (l.take (j + 1)) = some g) := Lib.hid (by
                rw [HTK.out, HS.out]
                unfold stepF
                rw [if_neg (fun h => hlt2 (by have h3 := h.2.2; rw [later_some, ← HFE.out.2.1, ← HGD.out] at h3; exact of_decide_eq_true h3))])
              clear hn HTK
              go_quiet (fail)
              go_wp2_with fail
              refine ⟨⟨j + 1, i, by omega, by go_num, rfl, by omega, Lib.hid (.inr ⟨i, g, rfl, HGI.out, HN.out⟩), Lib.hid (below_drewN HB3.out _)⟩, by simp [intOf]; omega⟩
        · have HN : Hid (seenF day nm (l.take (j + 1)) = seenF day nm (l.take j)) := Lib.hid (by
            rw [HTK.out]
            unfold stepF
            rw [← HFE.out.2.1, if_neg (fun h => hd h.2.1)])
          clear hn HTK
          go_quiet (fail)
          go_wp2_with fail
          refine ⟨⟨j + 1, ai, by omega, by go_num, rfl, by omega, Lib.hid (by rw [HN.out]; exact HA.out), Lib.hid (below_drewN HB3.out _)⟩, by simp [intOf]; omega⟩
      · have f1 : (fs.toList == nm.toList) = false := by simp [hn]
        have HN : Hid (seenF day nm (l.take (j + 1)) = seenF day nm (l.take j)) := Lib.hid (by
          rw [HTK.out]
          unfold stepF
          rw [← HFE.out.1, if_neg (fun h => hn h.1)])
        clear hn HTK
        go_quiet (fail)
        go_wp2_with fail
        refine ⟨⟨j + 1, ai, by omega, by go_num, rfl, by omega, Lib.hid (by rw [HN.out]; exact HA.out), Lib.hid (below_drewN HB3.out _)⟩, by simp [intOf]; omega⟩
    · obtain rfl : j = m := by omega
      have hA := HA.out
      rw [List.take_of_length_le (by rw [HM.out]; exact Nat.le_refl _)] at hA
      have HBZ := Lib.hid ((HR.out.block z (lt_of_heap HB1.out)).trans HB1.out)
      obtain ⟨c0, c1⟩ := duo HBZ.out
      have j1 : ¬ (j : Int) < (j : Int) := by omega
      rcases hA with ⟨rfl, hs⟩ | ⟨i, g, rfl, hg, hs⟩
      · have HS := Lib.hid hs
        clear hs HA
        go_wp2_with fail
        go_ret2
        exact ⟨by rw [HS.out]; rfl, HWR.out⟩
      · have hgl := (List.getElem?_eq_some_iff.1 hg).1
        obtain ⟨a, rfl, _, g0, g1, g2⟩ := (HX.out wr HWR.out).get hg
        obtain ⟨gv, hgv⟩ : ∃ v, v = g.val := ⟨_, rfl⟩
        rw [← hgv] at g2
        have HS := Lib.hid hs
        have HGV := Lib.hid hgv
        have i0 : (0 : Int) ≤ (i : Int) := by omega
        have i1 : (i : Int) < (j : Int) := by omega
        have i2 : ((i : Int) < 0) = False := by simp
        clear hs HA hgv hg hgl
        go_wp2_with fail
        go_ret2
        exact ⟨by rw [HS.out, HGV.out]; rfl, HWR.out⟩
end Go.Proofs.Ythhimllddgfddaa
namespace Go.Proofs.Ythhimllddgfddaa
open Go.RowKit Go.PlainAid Go.Sort
set_option linter.unusedVariables false
set_option linter.unusedSimpArgs false
/-- A value. -/
structure Vl where
  kind : Int
  n : Int
  b : Bool
abbrev vlV (v : Vl) : Value := .agg #[.int .i64 v.kind, .int .i64 v.n, .bool v.b]
def numV (n : Int) : Vl := ⟨1, n, false⟩
def truV (b : Bool) : Vl := ⟨2, 0, b⟩
def brkV : Vl := ⟨3, 0, false⟩
def unkV : Vl := ⟨0, 0, false⟩
def okV (n : Int) : Vl := if -9223372036854775808 ≤ n ∧ n ≤ 9223372036854775807 then numV n else brkV
/-- What an op makes of numbers. -/
def wkV (o a b : Int) : Vl :=
  if o = 5 then okV (a + b)
  else if o = 6 then okV (a - b)
  else if o = 7 then okV (a * b)
  else if o = 8 then (if b = 0 then brkV else okV (a.fdiv b))
  else if o = 9 then numV (min a b)
  else if o = 10 then numV (max a b)
  else if o = 20 then okV (-a)
  else if o = 11 then truV (decide (a < b))
  else if o = 12 then truV (decide (a ≤ b))
  else if o = 13 then truV (decide (a = b))
  else if o = 14 then truV (decide (a ≠ b))
  else if o = 15 then truV (decide (b ≤ a))
  else truV (decide (b < a))
def isT (v : Vl) (d : Bool) : Bool := v.kind == 2 && (v.n == 0 && v.b == d)
def jnV (d : Bool) (a b : Vl) : Vl := if decide (a.kind = 3) || isT a d then a else if (decide (a.kind = 2) || decide (b.kind = 3)) || isT b d then b else unkV
def chV (a b c : Vl) : Vl := if a.kind = 2 then (if a.b = true then b else c) else a
def plV (o : Int) (a b : Vl) : Vl := if a.kind = 3 ∨ b.kind = 3 then brkV else if a.kind = 0 ∨ b.kind = 0 then unkV else if o = 19 then truV (!a.b) else wkV o a.n b.n
def evN (sn : ByteArray → Option Fx) (day o n : Int) (s : ByteArray) (vs : List Vl) : Vl :=
  if o = 1 ∨ o = 2 then numV n
  else if o = 4 then numV day
  else if o = 3 then (match sn s with | some f => numV f.val | none => unkV)
  else match vs with
    | [a] => plV o a a
    | [a, b] => if o = 17 then jnV false a b else if o = 18 then jnV true a b else plV o a b
    | [a, b, c] => chV a b c
    | _ => unkV
def Xp.ev (sn : ByteArray → Option Fx) (day : Int) : Xp → Vl
  | .mk o n s l => evN sn day o n s (evs l)
where evs : List Xp → List Vl
  | [] => []
  | x :: t => x.ev sn day :: evs t
theorem evs_map (sn : ByteArray → Option Fx) (day : Int) (l : List Xp) : Xp.ev.evs sn day l = l.map (Xp.ev sn day) := by
  induction l with
  | nil => rfl
  | cons x t ih => simp [Xp.ev.evs, ih]
theorem Xp.ev_eq (sn : ByteArray → Option Fx) (day : Int) (x : Xp) : x.ev sn day = evN sn day x.op x.n x.nm (x.args.map (Xp.ev sn day)) := by cases x; simp [Xp.ev, evs_map, Xp.op, Xp.args, Xp.n, Xp.nm]
theorem eq_vl (k n k' n' : Int) (b b' : Bool) (W : World) : (Op.equalIn 10000 99 (.agg #[.int .i64 k, .int .i64 n, .bool b]) (.agg #[.int .i64 k', .int .i64 n', .bool b'])).run Try.prog W = .ok (k == k' && (n == n' && (b == b'))) W := by
  cases h1 : (k == k') <;> cases h2 : (n == n') <;> cases h3 : (b == b') <;> simp [go_sem, h1, h2, h3]
theorem three_set (wr : World) (rb : Nat) (x0 x1 x2 : Value) (o : Array Value) (T : TypeId) (ho : ∃ y0 y1 y2, o = #[y0, y1, y2]) (hb : wr.heap[rb]? = some (.cells o T (0, 0))) : ∀ W, (((wr.setCell ⟨rb, 0, none⟩ x0).setCell ⟨rb, 1, none⟩ x1).setCell ⟨rb, 2, none⟩ x2) = W → Below rb wr W ∧ (∀ b, b ≠ rb → W.heap[b]? = wr.heap[b]?) ∧ W.heap.size = wr.heap.size ∧ W.heap[rb]? = some (.cells #[x0, x1, x2] T (0, 0)) := by
  rintro W rfl
  obtain ⟨y0, y1, y2, rfl⟩ := ho
  refine ⟨?_, fun b hb => ?_, by simp, ?_⟩
  · exact (((Below.refl rb wr).setCell (p := ⟨rb, 0, none⟩) (Nat.le_refl _) _).setCell (p := ⟨rb, 1, none⟩) (Nat.le_refl _) _).setCell (p := ⟨rb, 2, none⟩) (Nat.le_refl _) _
  · exact (Below.heap_setCell _ _ _ _ hb).trans ((Below.heap_setCell _ _ _ _ hb).trans (Below.heap_setCell _ _ _ _ hb))
  · have q0 := heap_set_at (i := 0) x0 hb
    have q1 := heap_set_at (i := 1) x1 q0
    exact heap_set_at (i := 2) x2 q1
set_option maxRecDepth 100000 in
set_option maxHeartbeats 4000000 in
theorem number_yes (n : Int) (w : World) : Calls Try.prog 73 #[.int .i64 n, .bool true] w fun e w' => e = .returned (vlV (numV n)) ∧ Below w.heap.size w w' := by
  obtain ⟨⟨r0, r1, r2⟩, p0, p1, p2⟩ := three_zero w (.int .i64 0) (.int .i64 0) (.bool false) 99
  have HF := Lib.hid (three_made (.int .i64 1) (.int .i64 n) (.bool false) 99 w)
  go_enter Try.func73, Try.ntmps73
  go_wp2_with fail
  clear r0 r1 r2 p0 p1 p2
  obtain ⟨W, hW⟩ : ∃ X, w.alloc (.cells #[.int .i64 1, .int .i64 n, .bool false] 99) = X := ⟨_, rfl⟩
  obtain ⟨k, b, s⟩ := HF.out W hW
  rw [hW]
  obtain ⟨d0, d1, d2⟩ := trio b
  exact bodyPost_ret (v := vlV (numV n)) (by simp [results, Try.results73, go_sem, d0, d1, d2, numV]) rfl ⟨rfl, k⟩
set_option maxRecDepth 100000 in
set_option maxHeartbeats 4000000 in
theorem truth_any (t : Bool) (w : World) : Calls Try.prog 77 #[.bool t] w fun e w' => e = .returned (vlV (truV t)) ∧ Below w.heap.size w w' := by
  obtain ⟨⟨r0, r1, r2⟩, p0, p1, p2⟩ := three_zero w (.int .i64 0) (.int .i64 0) (.bool false) 99
  have HF := Lib.hid (three_made (.int .i64 2) (.int .i64 0) (.bool t) 99 w)
  go_enter Try.func77, Try.ntmps77
  go_wp2_with fail
  clear r0 r1 r2 p0 p1 p2
  obtain ⟨W, hW⟩ : ∃ X, w.alloc (.cells #[.int .i64 2, .int .i64 0, .bool t] 99) = X := ⟨_, rfl⟩
  obtain ⟨k, b, s⟩ := HF.out W hW
  rw [hW]
  obtain ⟨d0, d1, d2⟩ := trio b
  exact bodyPost_ret (v := vlV (truV t)) (by simp [results, Try.results77, go_sem, d0, d1, d2, truV]) rfl ⟨rfl, k⟩
theorem four_boxed (v0 v1 v2 v3 : Value) (T : TypeId) (w : World) : ∀ W, w.alloc (.cells #[v0, v1, v2, v3] T) = W → Below w.heap.size w W ∧ W.heap[w.heap.size]? = some (.cells #[v0, v1, v2, v3] T (0, 0)) ∧ W.heap.size = w.heap.size + 1 := by
  rintro W rfl
  exact ⟨(Below.refl w.heap.size w).alloc (Nat.le_refl _) _, heap_alloc_new w _, by simp⟩
/-- An expression, an environment and a value, each in a box. -/
theorem entry_made (x0 x1 x2 x3 e0 e1 : Value) (w : World) : ∀ W, ((w.alloc (.cells #[x0, x1, x2, x3] 53)).alloc (.cells #[e0, e1] 44)).alloc (.cells #[.int .i64 0, .int .i64 0, .bool false] 99) = W → Below w.heap.size w W ∧ W.heap[w.heap.size]? = some (.cells #[x0, x1, x2, x3] 53 (0, 0)) ∧ W.heap[w.heap.size + 1]? = some (.cells #[e0, e1] 44 (0, 0)) ∧ W.heap[w.heap.size + 1 + 1]? = some (.cells #[.int .i64 0, .int .i64 0, .bool false] 99 (0, 0)) := by
  rintro W rfl
  obtain ⟨k1, b1, s1⟩ := four_boxed x0 x1 x2 x3 53 w _ rfl
  obtain ⟨k2, b2, s2⟩ := two_made e0 e1 44 (w.alloc (.cells #[x0, x1, x2, x3] 53)) _ rfl
  obtain ⟨k3, b3, s3⟩ := three_made (.int .i64 0) (.int .i64 0) (.bool false) 99 ((w.alloc (.cells #[x0, x1, x2, x3] 53)).alloc (.cells #[e0, e1] 44)) _ rfl
  refine ⟨below_mono (below_mono k1 k2 (Nat.le_refl _)) k3 (Nat.le_refl _), (k3.block _ (by omega)).trans ((k2.block _ (by omega)).trans b1), (k3.block _ (by omega)).trans ?_, ?_⟩
  · rw [← s1]; exact b2
  · rw [show w.heap.size + 1 + 1 = ((w.alloc (.cells #[x0, x1, x2, x3] 53)).alloc (.cells #[e0, e1] 44)).heap.size from by omega]; exact b3
/-- The three boxes of a walk. -/
structure EvB (z : Nat) (xv : Array Value) (ev : Array Value) (w W : World) : Prop where
  bel : Below w.heap.size w W
  ex : W.heap[z]? = some (.cells xv 53 (0, 0))
  en : W.heap[z + 1]? = some (.cells ev 44 (0, 0))
  va : W.heap[z + 1 + 1]? = some (.cells #[.int .i64 0, .int .i64 0, .bool false] 99 (0, 0))
  le : w.heap.size ≤ z
theorem EvB.next {z : Nat} {xv ev : Array Value} {w W V : World} (h : EvB z xv ev w W) (k : Below W.heap.size W V) : EvB z xv ev w V :=
  ⟨below_mono h.bel k (Nat.le_refl _), (k.block _ (lt_of_heap h.ex)).trans h.ex, (k.block _ (lt_of_heap h.en)).trans h.en, (k.block _ (lt_of_heap h.va)).trans h.va, h.le⟩
set_option maxRecDepth 100000 in
set_option maxHeartbeats 8000000 in
theorem joined_any {xo xn : Int} {xs : ByteArray} {a : Addr} {k : Nat} {day : Int} {fa : Option Addr} {fm fc : Nat} (d : Bool) (v0 v1 : Vl) (w : World) {yo yn : Int} {ys : ByteArray} {co : Option Addr} {cm ck : Nat} {zo zn : Int} {zs : ByteArray} {co1 : Option Addr} {dm ck1 : Nat} (ha : a.block < w.heap.size) (hk : 2 ≤ k)
    (hf0 : FourX w a (.int .i64 yo) (.int .i64 yn) (.string ys) (.slice co cm ck)) (hf1 : FourX w ⟨a.block, a.off + 4, none⟩ (.int .i64 zo) (.int .i64 zn) (.string zs) (.slice co1 dm ck1))
    (h0 : ∀ V, Below w.heap.size w V → Calls Try.prog 66 #[.agg #[.int .i64 yo, .int .i64 yn, .string ys, .slice co cm ck], .agg #[.int .i64 day, .slice fa fm fc]] V fun e w' => e = .returned (vlV v0) ∧ Below V.heap.size V w')
    (h1 : ∀ V, Below w.heap.size w V → Calls Try.prog 66 #[.agg #[.int .i64 zo, .int .i64 zn, .string zs, .slice co1 dm ck1], .agg #[.int .i64 day, .slice fa fm fc]] V fun e w' => e = .returned (vlV v1) ∧ Below V.heap.size V w') :
    Calls Try.prog 75 #[.agg #[.int .i64 xo, .int .i64 xn, .string xs, .slice (some a) 2 k], .agg #[.int .i64 day, .slice fa fm fc], .bool d] w fun e w' => e = .returned (vlV (jnV d v0 v1)) ∧ Below w.heap.size w w' := by
  obtain ⟨bo, hbo⟩ : ∃ b, b = some a := ⟨_, rfl⟩
  obtain ⟨m, hm⟩ : ∃ m, m = 2 := ⟨_, rfl⟩
  have GA := Lib.hid (entry_made (.int .i64 xo) (.int .i64 xn) (.string xs) (.slice (some a) 2 k) (.int .i64 day) (.slice fa fm fc) w)
  have C0 := Lib.hid h0
  have C1 := Lib.hid h1
  have HC0 : Hid (∀ V, Below w.heap.size w V → FourX V a (.int .i64 yo) (.int .i64 yn) (.string ys) (.slice co cm ck)) := Lib.hid fun V hV => hf0.stay (hV.block _ ha)
  have HC1 : Hid (∀ V, Below w.heap.size w V → FourX V ⟨a.block, a.off + 4, none⟩ (.int .i64 zo) (.int .i64 zn) (.string zs) (.slice co1 dm ck1)) := Lib.hid fun V hV => hf1.stay (hV.block _ ha)
  obtain ⟨r0, hr0⟩ : ∃ r, r = v0.kind := ⟨_, rfl⟩
  obtain ⟨n0, hn0⟩ : ∃ r, r = v0.n := ⟨_, rfl⟩
  obtain ⟨t0, ht0⟩ : ∃ r, r = v0.b := ⟨_, rfl⟩
  obtain ⟨r1, hr1⟩ : ∃ r, r = v1.kind := ⟨_, rfl⟩
  obtain ⟨n1, hn1⟩ : ∃ r, r = v1.n := ⟨_, rfl⟩
  obtain ⟨t1, ht1⟩ : ∃ r, r = v1.b := ⟨_, rfl⟩
  have HV0 : Hid (v0 = ⟨r0, n0, t0⟩) := Lib.hid (by rw [hr0, hn0, ht0])
  have HV1 : Hid (v1 = ⟨r1, n1, t1⟩) := Lib.hid (by rw [hr1, hn1, ht1])
  rw [show vlV v0 = .agg #[.int .i64 r0, .int .i64 n0, .bool t0] from by rw [hr0, hn0, ht0]] at C0
  rw [show vlV v1 = .agg #[.int .i64 r1, .int .i64 n1, .bool t1] from by rw [hr1, hn1, ht1]] at C1
  clear h0 h1 hf0 hf1 hr0 hn0 ht0 hr1 hn1 ht1 hbo hm ha
  go_enter Try.func75, Try.ntmps75
  go_upto_region 1 with fail
  obtain ⟨W, hW⟩ : ∃ X, ((w.alloc (.cells #[.int .i64 xo, .int .i64 xn, .string xs, .slice (some a) 2 k] 53)).alloc (.cells #[.int .i64 day, .slice fa fm fc] 44)).alloc (.cells #[.int .i64 0, .int .i64 0, .bool false] 99) = X := ⟨_, rfl⟩
  obtain ⟨g1, b1, b2, b3⟩ := GA.out W hW
  obtain ⟨z, hz⟩ : ∃ z, z = w.heap.size := ⟨_, rfl⟩
  rw [hW, ← hz]
  rw [← hz] at b1 b2 b3
  have HE : Hid (EvB z #[.int .i64 xo, .int .i64 xn, .string xs, .slice (some a) 2 k] #[.int .i64 day, .slice fa fm fc] w W) := Lib.hid ⟨g1, b1, b2, b3, by omega⟩
  clear hW b1 b2 b3 g1 GA hz
  have c3 : W.cell? ⟨z, 3, none⟩ = some (.slice (some a) 2 k) := cell_blk HE.out.ex 3
  obtain ⟨e0, e1⟩ := duo HE.out.en
  obtain ⟨y0, y1, y2, y3⟩ := HC0.out W HE.out.bel
  go_cut [7] (fun p wx => ∃ u : Nat, p = .pointer (some ⟨u, 0, none⟩) ∧ Hid (Below W.heap.size W wx ∧ W.heap.size ≤ u ∧ wx.heap[u]? = some (.cells #[.int .i64 r0, .int .i64 n0, .bool t0] 99 (0, 0))))
  case first =>
    have HBA : Hid (Below W.heap.size W (W.alloc (.cells #[.int .i64 0, .int .i64 0, .bool false] 99)).drew ∧ (W.alloc (.cells #[.int .i64 0, .int .i64 0, .bool false] 99)).drew.heap[W.heap.size]? = some (.cells #[.int .i64 0, .int .i64 0, .bool false] 99 (0, 0))) := Lib.hid ⟨((Below.refl _ _).alloc (Nat.le_refl _) _).drew, heap_alloc_new _ _⟩
    have HBD : Hid (Below W.heap.size W W.drew) := Lib.hid (Below.refl _ _).drew
    have HSF : Hid (∀ V, Below W.heap.size W V → V.cell? ⟨z, 3, none⟩ = some (.slice (some a) 2 k) ∧ V.cell? ⟨z + 1, 0, none⟩ = some (.int .i64 day) ∧ V.cell? ⟨z + 1, 1, none⟩ = some (.slice fa fm fc) ∧ V.cell? a = some (.int .i64 yo) ∧ V.cell? ⟨a.block, a.off + 1, none⟩ = some (.int .i64 yn) ∧ V.cell? ⟨a.block, a.off + 2, none⟩ = some (.string ys) ∧ V.cell? ⟨a.block, a.off + 3, none⟩ = some (.slice co cm ck)) := Lib.hid fun V hV => ⟨cell_blk (HE.out.next hV).ex 3, (duo (HE.out.next hV).en).1, (duo (HE.out.next hV).en).2, (HC0.out V (HE.out.next hV).bel).1, (HC0.out V (HE.out.next hV).bel).2.1, (HC0.out V (HE.out.next hV).bel).2.2.1, (HC0.out V (HE.out.next hV).bel).2.2.2⟩
    go_region_held3 (fun w' => w'.cell? ⟨z, 3, none⟩ = some (.slice (some a) 2 k) ∧ w'.cell? ⟨z + 1, 0, none⟩ = some (.int .i64 day) ∧ w'.cell? ⟨z + 1, 1, none⟩ = some (.slice fa fm fc) ∧ w'.cell? a = some (.int .i64 yo) ∧ w'.cell? ⟨a.block, a.off + 1, none⟩ = some (.int .i64 yn) ∧ w'.cell? ⟨a.block, a.off + 2, none⟩ = some (.string ys) ∧ w'.cell? ⟨a.block, a.off + 3, none⟩ = some (.slice co cm ck))
      (first | exact HSF.out _ HB4.out | exact HSF.out _ (below_mono HB4.out ((Below.refl _ _).alloc (Nat.le_refl _) _) (Nat.le_refl _)) | exact HSF.out _ (((HB4.out.setCell (p := ⟨W.heap.size, 0, none⟩) (Nat.le_refl _) _).setCell (p := ⟨W.heap.size, 1, none⟩) (Nat.le_refl _) _).setCell (p := ⟨W.heap.size, 2, none⟩) (Nat.le_refl _) _) | (go_keep; done))
      (first
        | (go_at_call 66; (with_reducible refine (C0.out _ (HE.out.next HBD.out).bel).mono ?_); rintro e w4 ⟨rfl, hb⟩; have HB4 := Lib.hid (HBD.out.trans hb); clear hb; obtain ⟨⟨n0', n1', n2'⟩, p0, p1, p2⟩ := three_zero w4 (.int .i64 0) (.int .i64 0) (.bool false) 99)
        | (go_at_call 66; (with_reducible refine (C0.out _ (HE.out.next HBA.out.1).bel).mono ?_); rintro e w4 ⟨rfl, hb⟩; have HB4 := Lib.hid (HBA.out.1.trans (hb.mono (by simp))); have HX4 := Lib.hid ((hb.block _ (by simp)).trans HBA.out.2); obtain ⟨n0', n1', n2'⟩ := trio HX4.out; have p0 : w4.frozen? ⟨W.heap.size, 0, none⟩ = false := free_blk HX4.out 0; have p1 : w4.frozen? ⟨W.heap.size, 1, none⟩ = false := free_blk HX4.out 1; have p2 : w4.frozen? ⟨W.heap.size, 2, none⟩ = false := free_blk HX4.out 2; clear hb))
    · go_wp2_with fail
      go_meet
      exact ⟨w4.heap.size, rfl, Lib.hid ⟨below_mono HB4.out ((Below.refl _ _).alloc (Nat.le_refl _) _) (Nat.le_refl _), HB4.out.size, heap_alloc_new _ _⟩⟩
    · go_wp2_with fail
      go_meet
      obtain ⟨k9, _, _, x9⟩ := three_set w4 W.heap.size (.int .i64 r0) (.int .i64 n0) (.bool t0) _ _ ⟨_, _, _, rfl⟩ HX4.out _ rfl
      exact ⟨W.heap.size, rfl, Lib.hid ⟨HB4.out.trans k9, Nat.le_refl _, x9⟩⟩
  case rest =>
    obtain ⟨u, rfl, HU⟩ := hcut
    clear c3 e0 e1 y0 y1 y2 y3
    have HE2 := Lib.hid (HE.out.next HU.out.1)
    have HXU := Lib.hid HU.out.2.2
    obtain ⟨k0, k1, k2⟩ := trio HXU.out
    by_cases h3 : r0 = 3
    · subst h3
      have HR : Hid (jnV d v0 v1 = ⟨3, n0, t0⟩) := Lib.hid (by rw [HV0.out]; rfl)
      go_upto_region 2 with fail
      go_quiet (fail)
      go_upto_region 3 with fail
      refine wp_letter (fun V => Below wc.heap.size wc V) (below_drewN (Below.refl _ _) _) ?_
      rintro W8 hw8
      have HE8 := Lib.hid (HE2.out.next hw8)
      have hx8 := (hw8.block u (lt_of_heap HXU.out)).trans HXU.out
      clear hw8 k0 k1 k2
      obtain ⟨k0, k1, k2⟩ := trio hx8
      clear hx8
      obtain ⟨q0', q1', q2'⟩ := trio HE8.out.va
      have p0 : W8.frozen? ⟨z + 1 + 1, 0, none⟩ = false := free_blk HE8.out.va 0
      have p1 : W8.frozen? ⟨z + 1 + 1, 1, none⟩ = false := free_blk HE8.out.va 1
      have p2 : W8.frozen? ⟨z + 1 + 1, 2, none⟩ = false := free_blk HE8.out.va 2
      go_wp2_with fail
      have HS9 := Lib.hid (three_set W8 (z + 1 + 1) (.int .i64 3) (.int .i64 n0) (.bool t0) _ _ ⟨_, _, _, rfl⟩ HE8.out.va)
      clear q0' q1' q2' p0 p1 p2
      obtain ⟨W9, hW9⟩ : ∃ X, (((W8.setCell ⟨z + 1 + 1, 0, none⟩ (.int .i64 3)).setCell ⟨z + 1 + 1, 1, none⟩ (.int .i64 n0)).setCell ⟨z + 1 + 1, 2, none⟩ (.bool t0)) = X := ⟨_, rfl⟩
      obtain ⟨k9, _, _, x9⟩ := HS9.out W9 hW9
      rw [hW9]
      obtain ⟨d0, d1, d2⟩ := trio x9
      exact bodyPost_ret (v := .agg #[.int .i64 3, .int .i64 n0, .bool t0]) (by simp [results, Try.results75, go_sem, d0, d1, d2]) rfl ⟨by rw [HR.out], HE8.out.bel.trans (k9.mono (by have := HE8.out.le; omega))⟩
    · have f3 : (r0 == 3) = false := by simp [h3]
      obtain ⟨q0, hq0⟩ : ∃ q, q = isT v0 d := ⟨_, rfl⟩
      have HQ : ∀ V, (Op.equalIn 10000 99 (.agg #[.int .i64 r0, .int .i64 n0, .bool t0]) (.agg #[.int .i64 2, .int .i64 0, .bool d])).run Try.prog V = .ok q0 V := fun V => by
        rw [hq0, HV0.out]; exact eq_vl r0 n0 2 0 t0 d V
      have HQ0 := Lib.hid hq0
      clear hq0
      have QF := Lib.hid (fun V : World => truth_any d V)
      cases q0 with
      | true =>
        have HR : Hid (jnV d v0 v1 = ⟨r0, n0, t0⟩) := Lib.hid (by unfold jnV; rw [← HQ0.out, Bool.or_true, if_pos rfl]; exact HV0.out)
        go_upto_region 2 with fail
        have CQ : Hid (∀ dd os, Calls Try.prog 77 #[.bool d] (grow (redrawn wc dd) os) fun e w'' => e = .returned (.agg #[.int .i64 2, .int .i64 0, .bool d]) ∧ ∃ q : Regrown, w'' = grow (redrawn wc q.d) q.os) := Lib.hid fun dd os => Calls.regrown_of (QF.out _)
        have cg0 : ∀ dd os, (grow (redrawn wc dd) os).cell? ⟨u, 0, none⟩ = some (.int .i64 r0) := fun dd os => (trio (((below_regrown wc dd os).block _ (lt_of_heap HXU.out)).trans HXU.out)).1
        have cg1 : ∀ dd os, (grow (redrawn wc dd) os).cell? ⟨u, 1, none⟩ = some (.int .i64 n0) := fun dd os => (trio (((below_regrown wc dd os).block _ (lt_of_heap HXU.out)).trans HXU.out)).2.1
        have cg2 : ∀ dd os, (grow (redrawn wc dd) os).cell? ⟨u, 2, none⟩ = some (.bool t0) := fun dd os => (trio (((below_regrown wc dd os).block _ (lt_of_heap HXU.out)).trans HXU.out)).2.2
        refine wp_region_quiet_below (by kernel_rfl) (by kernel_rfl) ?_
        repeat (first | go_big_quiet_step (with_reducible exact CQ.out _ _) | quiet_step (with_reducible exact CQ.out _ _))
        refine wpQuiet_nil ?_
        rintro _ ⟨⟨dq, osq⟩, hw''⟩
        subst hw''
        have HB4 := Lib.hid (below_regrown wc dq osq)
        clear cg0 cg1 cg2
        go_upto_region 3 with fail
        refine wp_letter (fun V => Below wc.heap.size wc V) HB4.out ?_
        rintro W8 hw8
        have HE8 := Lib.hid (HE2.out.next hw8)
        have HY0 := Lib.hid ((hw8.block _ (lt_of_heap HXU.out)).trans HXU.out)
        clear hw8
        clear k0 k1 k2
        obtain ⟨k0, k1, k2⟩ := trio HY0.out
        obtain ⟨q0', q1', q2'⟩ := trio HE8.out.va
        have p0 : W8.frozen? ⟨z + 1 + 1, 0, none⟩ = false := free_blk HE8.out.va 0
        have p1 : W8.frozen? ⟨z + 1 + 1, 1, none⟩ = false := free_blk HE8.out.va 1
        have p2 : W8.frozen? ⟨z + 1 + 1, 2, none⟩ = false := free_blk HE8.out.va 2
        go_wp2_with fail
        have HS9 := Lib.hid (three_set W8 (z + 1 + 1) (.int .i64 r0) (.int .i64 n0) (.bool t0) _ _ ⟨_, _, _, rfl⟩ HE8.out.va)
        clear q0' q1' q2' p0 p1 p2
        obtain ⟨W9, hW9⟩ : ∃ X, (((W8.setCell ⟨z + 1 + 1, 0, none⟩ (.int .i64 r0)).setCell ⟨z + 1 + 1, 1, none⟩ (.int .i64 n0)).setCell ⟨z + 1 + 1, 2, none⟩ (.bool t0)) = X := ⟨_, rfl⟩
        obtain ⟨k9, _, _, x9⟩ := HS9.out W9 hW9
        rw [hW9]
        obtain ⟨d0, d1, d2⟩ := trio x9
        exact bodyPost_ret (v := .agg #[.int .i64 r0, .int .i64 n0, .bool t0]) (by simp [results, Try.results75, go_sem, d0, d1, d2]) rfl ⟨by rw [HR.out], HE8.out.bel.trans (k9.mono (by have := HE8.out.le; omega))⟩
      | false =>
        have HR : Hid (jnV d v0 v1 = if (decide (v1.kind = 3) || decide (v0.kind = 2)) || isT v1 d then v1 else unkV) := Lib.hid (by
          unfold jnV
          rw [← HQ0.out, show decide (v0.kind = 3) = false from by rw [HV0.out]; simp [h3]]
          rw [Bool.or_comm (decide (v1.kind = 3))]
          rfl)
        go_upto_region 2 with fail
        have CQ : Hid (∀ dd os, Calls Try.prog 77 #[.bool d] (grow (redrawn wc dd) os) fun e w'' => e = .returned (.agg #[.int .i64 2, .int .i64 0, .bool d]) ∧ ∃ q : Regrown, w'' = grow (redrawn wc q.d) q.os) := Lib.hid fun dd os => Calls.regrown_of (QF.out _)
        have cg0 : ∀ dd os, (grow (redrawn wc dd) os).cell? ⟨u, 0, none⟩ = some (.int .i64 r0) := fun dd os => (trio (((below_regrown wc dd os).block _ (lt_of_heap HXU.out)).trans HXU.out)).1
        have cg1 : ∀ dd os, (grow (redrawn wc dd) os).cell? ⟨u, 1, none⟩ = some (.int .i64 n0) := fun dd os => (trio (((below_regrown wc dd os).block _ (lt_of_heap HXU.out)).trans HXU.out)).2.1
        have cg2 : ∀ dd os, (grow (redrawn wc dd) os).cell? ⟨u, 2, none⟩ = some (.bool t0) := fun dd os => (trio (((below_regrown wc dd os).block _ (lt_of_heap HXU.out)).trans HXU.out)).2.2
        refine wp_region_quiet_below (by kernel_rfl) (by kernel_rfl) ?_
        repeat (first | go_big_quiet_step (with_reducible exact CQ.out _ _) | quiet_step (with_reducible exact CQ.out _ _))
        refine wpQuiet_nil ?_
        rintro _ ⟨⟨dq, osq⟩, hw''⟩
        subst hw''
        have HB4 := Lib.hid (below_regrown wc dq osq)
        clear cg0 cg1 cg2
        go_upto_region 4 with fail
        refine wp_letter (fun V => Below wc.heap.size wc V) HB4.out ?_
        rintro W8 hw8
        have HE8 := Lib.hid (HE2.out.next hw8)
        have HY0 := Lib.hid ((hw8.block _ (lt_of_heap HXU.out)).trans HXU.out)
        clear hw8
        clear k0 k1 k2
        obtain ⟨wo, hwo⟩ : ∃ wo : World, wo = wc := ⟨_, rfl⟩
        have c3 : W8.cell? ⟨z, 3, none⟩ = some (.slice (some a) 2 k) := cell_blk HE8.out.ex 3
        obtain ⟨e0, e1⟩ := duo HE8.out.en
        obtain ⟨y0, y1, y2, y3⟩ := HC1.out W8 HE8.out.bel
        go_cut [8] (fun p wx => ∃ u : Nat, p = .pointer (some ⟨u, 0, none⟩) ∧ Hid (Below W8.heap.size W8 wx ∧ W8.heap.size ≤ u ∧ wx.heap[u]? = some (.cells #[.int .i64 r1, .int .i64 n1, .bool t1] 99 (0, 0))))
        case first =>
          have HBA : Hid (Below W8.heap.size W8 (W8.alloc (.cells #[.int .i64 0, .int .i64 0, .bool false] 99)).drew ∧ (W8.alloc (.cells #[.int .i64 0, .int .i64 0, .bool false] 99)).drew.heap[W8.heap.size]? = some (.cells #[.int .i64 0, .int .i64 0, .bool false] 99 (0, 0))) := Lib.hid ⟨((Below.refl _ _).alloc (Nat.le_refl _) _).drew, heap_alloc_new _ _⟩
          have HBD : Hid (Below W8.heap.size W8 W8.drew) := Lib.hid (Below.refl _ _).drew
          have HSF : Hid (∀ V, Below W8.heap.size W8 V → V.cell? ⟨z, 3, none⟩ = some (.slice (some a) 2 k) ∧ V.cell? ⟨z + 1, 0, none⟩ = some (.int .i64 day) ∧ V.cell? ⟨z + 1, 1, none⟩ = some (.slice fa fm fc) ∧ V.cell? ⟨a.block, a.off + 4, none⟩ = some (.int .i64 zo) ∧ V.cell? ⟨a.block, a.off + 4 + 1, none⟩ = some (.int .i64 zn) ∧ V.cell? ⟨a.block, a.off + 4 + 2, none⟩ = some (.string zs) ∧ V.cell? ⟨a.block, a.off + 4 + 3, none⟩ = some (.slice co1 dm ck1)) := Lib.hid fun V hV => ⟨cell_blk (HE8.out.next hV).ex 3, (duo (HE8.out.next hV).en).1, (duo (HE8.out.next hV).en).2, (HC1.out V (HE8.out.next hV).bel).1, (HC1.out V (HE8.out.next hV).bel).2.1, (HC1.out V (HE8.out.next hV).bel).2.2.1, (HC1.out V (HE8.out.next hV).bel).2.2.2⟩
          go_region_held3 (fun w' => w'.cell? ⟨z, 3, none⟩ = some (.slice (some a) 2 k) ∧ w'.cell? ⟨z + 1, 0, none⟩ = some (.int .i64 day) ∧ w'.cell? ⟨z + 1, 1, none⟩ = some (.slice fa fm fc) ∧ w'.cell? ⟨a.block, a.off + 4, none⟩ = some (.int .i64 zo) ∧ w'.cell? ⟨a.block, a.off + 4 + 1, none⟩ = some (.int .i64 zn) ∧ w'.cell? ⟨a.block, a.off + 4 + 2, none⟩ = some (.string zs) ∧ w'.cell? ⟨a.block, a.off + 4 + 3, none⟩ = some (.slice co1 dm ck1))
            (first | exact HSF.out _ HB4.out | exact HSF.out _ (below_mono HB4.out ((Below.refl _ _).alloc (Nat.le_refl _) _) (Nat.le_refl _)) | exact HSF.out _ (((HB4.out.setCell (p := ⟨W8.heap.size, 0, none⟩) (Nat.le_refl _) _).setCell (p := ⟨W8.heap.size, 1, none⟩) (Nat.le_refl _) _).setCell (p := ⟨W8.heap.size, 2, none⟩) (Nat.le_refl _) _) | (go_keep; done))
            (first
              | (go_at_call 66; (with_reducible refine (C1.out _ (HE8.out.next HBD.out).bel).mono ?_); rintro e w4 ⟨rfl, hb⟩; have HB4 := Lib.hid (HBD.out.trans hb); clear hb; obtain ⟨⟨n0', n1', n2'⟩, p0, p1, p2⟩ := three_zero w4 (.int .i64 0) (.int .i64 0) (.bool false) 99)
              | (go_at_call 66; (with_reducible refine (C1.out _ (HE8.out.next HBA.out.1).bel).mono ?_); rintro e w4 ⟨rfl, hb⟩; have HB4 := Lib.hid (HBA.out.1.trans (hb.mono (by simp))); have HX4 := Lib.hid ((hb.block _ (by simp)).trans HBA.out.2); obtain ⟨n0', n1', n2'⟩ := trio HX4.out; have p0 : w4.frozen? ⟨W8.heap.size, 0, none⟩ = false := free_blk HX4.out 0; have p1 : w4.frozen? ⟨W8.heap.size, 1, none⟩ = false := free_blk HX4.out 1; have p2 : w4.frozen? ⟨W8.heap.size, 2, none⟩ = false := free_blk HX4.out 2; clear hb))
          · go_wp2_with fail
            go_meet
            exact ⟨w4.heap.size, rfl, Lib.hid ⟨below_mono HB4.out ((Below.refl _ _).alloc (Nat.le_refl _) _) (Nat.le_refl _), HB4.out.size, heap_alloc_new _ _⟩⟩
          · go_wp2_with fail
            go_meet
            obtain ⟨k9, _, _, x9⟩ := three_set w4 W8.heap.size (.int .i64 r1) (.int .i64 n1) (.bool t1) _ _ ⟨_, _, _, rfl⟩ HX4.out _ rfl
            exact ⟨W8.heap.size, rfl, Lib.hid ⟨HB4.out.trans k9, Nat.le_refl _, x9⟩⟩
        case rest =>
          obtain ⟨u2, rfl, HU2⟩ := hcut
          clear c3 e0 e1 y0 y1 y2 y3
          have HE3 := Lib.hid (HE8.out.next HU2.out.1)
          have HXU8 := Lib.hid ((HU2.out.1.block u (lt_of_heap HY0.out)).trans HY0.out)
          have HXU2 := Lib.hid HU2.out.2.2
          obtain ⟨k0, k1, k2⟩ := trio HXU8.out
          obtain ⟨l0, l1, l2⟩ := trio HXU2.out
          by_cases g2 : r0 = 2
          · subst g2
            have HR2 : Hid (jnV d v0 v1 = ⟨r1, n1, t1⟩) := Lib.hid (by rw [HR.out, HV0.out]; simp; exact HV1.out)
            go_upto_region 5 with fail
            go_quiet (fail)
            go_upto_region 6 with fail
            refine wp_letter (fun V => Below wc.heap.size wc V) (below_drewN (Below.refl _ _) _) ?_
            rintro W9 hw8
            have HE8 := Lib.hid (HE3.out.next hw8)
            have HY0 := Lib.hid ((hw8.block _ (lt_of_heap HXU2.out)).trans HXU2.out)
            clear hw8
            clear k0 k1 k2 l0 l1 l2
            obtain ⟨k0, k1, k2⟩ := trio HY0.out
            obtain ⟨q0', q1', q2'⟩ := trio HE8.out.va
            have p0 : W9.frozen? ⟨z + 1 + 1, 0, none⟩ = false := free_blk HE8.out.va 0
            have p1 : W9.frozen? ⟨z + 1 + 1, 1, none⟩ = false := free_blk HE8.out.va 1
            have p2 : W9.frozen? ⟨z + 1 + 1, 2, none⟩ = false := free_blk HE8.out.va 2
            go_wp2_with fail
            have HS9 := Lib.hid (three_set W9 (z + 1 + 1) (.int .i64 r1) (.int .i64 n1) (.bool t1) _ _ ⟨_, _, _, rfl⟩ HE8.out.va)
            clear q0' q1' q2' p0 p1 p2
            obtain ⟨W10, hW9⟩ : ∃ X, (((W9.setCell ⟨z + 1 + 1, 0, none⟩ (.int .i64 r1)).setCell ⟨z + 1 + 1, 1, none⟩ (.int .i64 n1)).setCell ⟨z + 1 + 1, 2, none⟩ (.bool t1)) = X := ⟨_, rfl⟩
            obtain ⟨k9, _, _, x9⟩ := HS9.out W10 hW9
            rw [hW9]
            obtain ⟨d0, d1, d2⟩ := trio x9
            exact bodyPost_ret (v := .agg #[.int .i64 r1, .int .i64 n1, .bool t1]) (by simp [results, Try.results75, go_sem, d0, d1, d2]) rfl ⟨by rw [HR2.out], HE8.out.bel.trans (k9.mono (by have := HE8.out.le; omega))⟩
          · have f2 : (r0 == 2) = false := by simp [g2]
            by_cases g3 : r1 = 3
            · subst g3
              have HR2 : Hid (jnV d v0 v1 = ⟨3, n1, t1⟩) := Lib.hid (by rw [HR.out, HV1.out]; simp)
              go_upto_region 5 with fail
              go_quiet (fail)
              go_upto_region 6 with fail
              refine wp_letter (fun V => Below wc.heap.size wc V) (below_drewN (Below.refl _ _) _) ?_
              rintro W9 hw8
              have HE8 := Lib.hid (HE3.out.next hw8)
              have HY0 := Lib.hid ((hw8.block _ (lt_of_heap HXU2.out)).trans HXU2.out)
              clear hw8
              clear k0 k1 k2 l0 l1 l2
              obtain ⟨k0, k1, k2⟩ := trio HY0.out
              obtain ⟨q0', q1', q2'⟩ := trio HE8.out.va
              have p0 : W9.frozen? ⟨z + 1 + 1, 0, none⟩ = false := free_blk HE8.out.va 0
              have p1 : W9.frozen? ⟨z + 1 + 1, 1, none⟩ = false := free_blk HE8.out.va 1
              have p2 : W9.frozen? ⟨z + 1 + 1, 2, none⟩ = false := free_blk HE8.out.va 2
              go_wp2_with fail
              have HS9 := Lib.hid (three_set W9 (z + 1 + 1) (.int .i64 3) (.int .i64 n1) (.bool t1) _ _ ⟨_, _, _, rfl⟩ HE8.out.va)
              clear q0' q1' q2' p0 p1 p2
              obtain ⟨W10, hW9⟩ : ∃ X, (((W9.setCell ⟨z + 1 + 1, 0, none⟩ (.int .i64 3)).setCell ⟨z + 1 + 1, 1, none⟩ (.int .i64 n1)).setCell ⟨z + 1 + 1, 2, none⟩ (.bool t1)) = X := ⟨_, rfl⟩
              obtain ⟨k9, _, _, x9⟩ := HS9.out W10 hW9
              rw [hW9]
              obtain ⟨d0, d1, d2⟩ := trio x9
              exact bodyPost_ret (v := .agg #[.int .i64 3, .int .i64 n1, .bool t1]) (by simp [results, Try.results75, go_sem, d0, d1, d2]) rfl ⟨by rw [HR2.out], HE8.out.bel.trans (k9.mono (by have := HE8.out.le; omega))⟩
            · have f3' : (r1 == 3) = false := by simp [g3]
              obtain ⟨q1, hq1⟩ : ∃ q, q = isT v1 d := ⟨_, rfl⟩
              have HQ' : ∀ V, (Op.equalIn 10000 99 (.agg #[.int .i64 r1, .int .i64 n1, .bool t1]) (.agg #[.int .i64 2, .int .i64 0, .bool d])).run Try.prog V = .ok q1 V := fun V => by
                rw [hq1, HV1.out]; exact eq_vl r1 n1 2 0 t1 d V
              have HR2 : Hid (jnV d v0 v1 = if q1 = true then v1 else unkV) := Lib.hid (by rw [HR.out, hq1, show decide (v1.kind = 3) = false from by rw [HV1.out]; simp [g3], show decide (v0.kind = 2) = false from by rw [HV0.out]; simp [g2]]; rfl)
              clear hq1
              go_upto_region 5 with fail
              cases q1 with
              | true =>
                have HR3 : Hid (jnV d v0 v1 = ⟨r1, n1, t1⟩) := Lib.hid (by rw [HR2.out, if_pos rfl]; exact HV1.out)
                have CQ : Hid (∀ dd os, Calls Try.prog 77 #[.bool d] (grow (redrawn wc dd) os) fun e w'' => e = .returned (.agg #[.int .i64 2, .int .i64 0, .bool d]) ∧ ∃ q : Regrown, w'' = grow (redrawn wc q.d) q.os) := Lib.hid fun dd os => Calls.regrown_of (QF.out _)
                have cg0 : ∀ dd os, (grow (redrawn wc dd) os).cell? ⟨u, 0, none⟩ = some (.int .i64 r0) := fun dd os => (trio (((below_regrown wc dd os).block _ (lt_of_heap HXU8.out)).trans HXU8.out)).1
                have cg1 : ∀ dd os, (grow (redrawn wc dd) os).cell? ⟨u, 1, none⟩ = some (.int .i64 n0) := fun dd os => (trio (((below_regrown wc dd os).block _ (lt_of_heap HXU8.out)).trans HXU8.out)).2.1
                have cg2 : ∀ dd os, (grow (redrawn wc dd) os).cell? ⟨u, 2, none⟩ = some (.bool t0) := fun dd os => (trio (((below_regrown wc dd os).block _ (lt_of_heap HXU8.out)).trans HXU8.out)).2.2
                have cg3 : ∀ dd os, (grow (redrawn wc dd) os).cell? ⟨u2, 0, none⟩ = some (.int .i64 r1) := fun dd os => (trio (((below_regrown wc dd os).block _ (lt_of_heap HXU2.out)).trans HXU2.out)).1
                have cg4 : ∀ dd os, (grow (redrawn wc dd) os).cell? ⟨u2, 1, none⟩ = some (.int .i64 n1) := fun dd os => (trio (((below_regrown wc dd os).block _ (lt_of_heap HXU2.out)).trans HXU2.out)).2.1
                have cg5 : ∀ dd os, (grow (redrawn wc dd) os).cell? ⟨u2, 2, none⟩ = some (.bool t1) := fun dd os => (trio (((below_regrown wc dd os).block _ (lt_of_heap HXU2.out)).trans HXU2.out)).2.2
                refine wp_region_quiet_below (by kernel_rfl) (by kernel_rfl) ?_
                repeat (first | go_big_quiet_step (with_reducible exact CQ.out _ _) | quiet_step (with_reducible exact CQ.out _ _))
                refine wpQuiet_nil ?_
                rintro _ ⟨⟨dq, osq⟩, hw''⟩
                subst hw''
                have HB4 := Lib.hid (below_regrown wc dq osq)
                clear cg0 cg1 cg2 cg3 cg4 cg5
                go_upto_region 6 with fail
                refine wp_letter (fun V => Below wc.heap.size wc V) HB4.out ?_
                rintro W9 hw8
                have HE8 := Lib.hid (HE3.out.next hw8)
                have HY0 := Lib.hid ((hw8.block _ (lt_of_heap HXU2.out)).trans HXU2.out)
                clear hw8
                clear k0 k1 k2 l0 l1 l2
                obtain ⟨k0, k1, k2⟩ := trio HY0.out
                obtain ⟨q0', q1', q2'⟩ := trio HE8.out.va
                have p0 : W9.frozen? ⟨z + 1 + 1, 0, none⟩ = false := free_blk HE8.out.va 0
                have p1 : W9.frozen? ⟨z + 1 + 1, 1, none⟩ = false := free_blk HE8.out.va 1
                have p2 : W9.frozen? ⟨z + 1 + 1, 2, none⟩ = false := free_blk HE8.out.va 2
                go_wp2_with fail
                have HS9 := Lib.hid (three_set W9 (z + 1 + 1) (.int .i64 r1) (.int .i64 n1) (.bool t1) _ _ ⟨_, _, _, rfl⟩ HE8.out.va)
                clear q0' q1' q2' p0 p1 p2
                obtain ⟨W10, hW9⟩ : ∃ X, (((W9.setCell ⟨z + 1 + 1, 0, none⟩ (.int .i64 r1)).setCell ⟨z + 1 + 1, 1, none⟩ (.int .i64 n1)).setCell ⟨z + 1 + 1, 2, none⟩ (.bool t1)) = X := ⟨_, rfl⟩
                obtain ⟨k9, _, _, x9⟩ := HS9.out W10 hW9
                rw [hW9]
                obtain ⟨d0, d1, d2⟩ := trio x9
                exact bodyPost_ret (v := .agg #[.int .i64 r1, .int .i64 n1, .bool t1]) (by simp [results, Try.results75, go_sem, d0, d1, d2]) rfl ⟨by rw [HR3.out], HE8.out.bel.trans (k9.mono (by have := HE8.out.le; omega))⟩
              | false =>
                have HR3 : Hid (jnV d v0 v1 = unkV) := Lib.hid (by rw [HR2.out]; rfl)
                have CQ : Hid (∀ dd os, Calls Try.prog 77 #[.bool d] (grow (redrawn wc dd) os) fun e w'' => e = .returned (.agg #[.int .i64 2, .int .i64 0, .bool d]) ∧ ∃ q : Regrown, w'' = grow (redrawn wc q.d) q.os) := Lib.hid fun dd os => Calls.regrown_of (QF.out _)
                have cg0 : ∀ dd os, (grow (redrawn wc dd) os).cell? ⟨u, 0, none⟩ = some (.int .i64 r0) := fun dd os => (trio (((below_regrown wc dd os).block _ (lt_of_heap HXU8.out)).trans HXU8.out)).1
                have cg1 : ∀ dd os, (grow (redrawn wc dd) os).cell? ⟨u, 1, none⟩ = some (.int .i64 n0) := fun dd os => (trio (((below_regrown wc dd os).block _ (lt_of_heap HXU8.out)).trans HXU8.out)).2.1
                have cg2 : ∀ dd os, (grow (redrawn wc dd) os).cell? ⟨u, 2, none⟩ = some (.bool t0) := fun dd os => (trio (((below_regrown wc dd os).block _ (lt_of_heap HXU8.out)).trans HXU8.out)).2.2
                have cg3 : ∀ dd os, (grow (redrawn wc dd) os).cell? ⟨u2, 0, none⟩ = some (.int .i64 r1) := fun dd os => (trio (((below_regrown wc dd os).block _ (lt_of_heap HXU2.out)).trans HXU2.out)).1
                have cg4 : ∀ dd os, (grow (redrawn wc dd) os).cell? ⟨u2, 1, none⟩ = some (.int .i64 n1) := fun dd os => (trio (((below_regrown wc dd os).block _ (lt_of_heap HXU2.out)).trans HXU2.out)).2.1
                have cg5 : ∀ dd os, (grow (redrawn wc dd) os).cell? ⟨u2, 2, none⟩ = some (.bool t1) := fun dd os => (trio (((below_regrown wc dd os).block _ (lt_of_heap HXU2.out)).trans HXU2.out)).2.2
                refine wp_region_quiet_below (by kernel_rfl) (by kernel_rfl) ?_
                repeat (first | go_big_quiet_step (with_reducible exact CQ.out _ _) | quiet_step (with_reducible exact CQ.out _ _))
                refine wpQuiet_nil ?_
                rintro _ ⟨⟨dq, osq⟩, hw''⟩
                subst hw''
                have HB4 := Lib.hid (below_regrown wc dq osq)
                clear cg0 cg1 cg2 cg3 cg4 cg5
                go_upto_region 7 with fail
                refine wp_letter (fun V => Below wc.heap.size wc V) HB4.out ?_
                rintro W9 hw8
                have HE8 := Lib.hid (HE3.out.next hw8)
                have HY0 := Lib.hid ((hw8.block _ (lt_of_heap HXU2.out)).trans HXU2.out)
                clear hw8
                clear k0 k1 k2 l0 l1 l2
                obtain ⟨q0', q1', q2'⟩ := trio HE8.out.va
                have p0 : W9.frozen? ⟨z + 1 + 1, 0, none⟩ = false := free_blk HE8.out.va 0
                have p1 : W9.frozen? ⟨z + 1 + 1, 1, none⟩ = false := free_blk HE8.out.va 1
                have p2 : W9.frozen? ⟨z + 1 + 1, 2, none⟩ = false := free_blk HE8.out.va 2
                go_wp2_with fail
                have HS9 := Lib.hid (three_set W9 (z + 1 + 1) (.int .i64 0) (.int .i64 0) (.bool false) _ _ ⟨_, _, _, rfl⟩ HE8.out.va)
                clear q0' q1' q2' p0 p1 p2
                obtain ⟨W10, hW9⟩ : ∃ X, (((W9.setCell ⟨z + 1 + 1, 0, none⟩ (.int .i64 0)).setCell ⟨z + 1 + 1, 1, none⟩ (.int .i64 0)).setCell ⟨z + 1 + 1, 2, none⟩ (.bool false)) = X := ⟨_, rfl⟩
                obtain ⟨k9, _, _, x9⟩ := HS9.out W10 hW9
                rw [hW9]
                obtain ⟨d0, d1, d2⟩ := trio x9
                exact bodyPost_ret (v := .agg #[.int .i64 0, .int .i64 0, .bool false]) (by simp [results, Try.results75, go_sem, d0, d1, d2]) rfl ⟨by rw [HR3.out]; rfl, HE8.out.bel.trans (k9.mono (by have := HE8.out.le; omega))⟩
theorem set3_cell (V : World) (rb : Nat) (x0 x1 x2 : Value) {p : Addr} (hb : p.block ≠ rb) : (((V.setCell ⟨rb, 0, none⟩ x0).setCell ⟨rb, 1, none⟩ x1).setCell ⟨rb, 2, none⟩ x2).cell? p = V.cell? p :=
  cell_heap ((Below.heap_setCell _ _ _ _ hb).trans ((Below.heap_setCell _ _ _ _ hb).trans (Below.heap_setCell _ _ _ _ hb)))
set_option maxRecDepth 100000 in
set_option maxHeartbeats 8000000 in
theorem chosen_any {xo xn : Int} {xs : ByteArray} {a : Addr} {k : Nat} {day : Int} {fa : Option Addr} {fm fc : Nat} (v0 v1 v2 : Vl) (w : World) {yo yn : Int} {ys : ByteArray} {co : Option Addr} {cm ck : Nat} {zo zn : Int} {zs : ByteArray} {co1 : Option Addr} {dm ck1 : Nat} {uo un : Int} {us : ByteArray} {co2 : Option Addr} {um ck2 : Nat} (ha : a.block < w.heap.size)
    (hf0 : FourX w a (.int .i64 yo) (.int .i64 yn) (.string ys) (.slice co cm ck)) (hf1 : FourX w ⟨a.block, a.off + 4, none⟩ (.int .i64 zo) (.int .i64 zn) (.string zs) (.slice co1 dm ck1)) (hf2 : FourX w ⟨a.block, a.off + 8, none⟩ (.int .i64 uo) (.int .i64 un) (.string us) (.slice co2 um ck2))
    (h0 : ∀ V, Below w.heap.size w V → Calls Try.prog 66 #[.agg #[.int .i64 yo, .int .i64 yn, .string ys, .slice co cm ck], .agg #[.int .i64 day, .slice fa fm fc]] V fun e w' => e = .returned (vlV v0) ∧ Below V.heap.size V w')
    (h1 : ∀ V, Below w.heap.size w V → Calls Try.prog 66 #[.agg #[.int .i64 zo, .int .i64 zn, .string zs, .slice co1 dm ck1], .agg #[.int .i64 day, .slice fa fm fc]] V fun e w' => e = .returned (vlV v1) ∧ Below V.heap.size V w')
    (h2 : ∀ V, Below w.heap.size w V → Calls Try.prog 66 #[.agg #[.int .i64 uo, .int .i64 un, .string us, .slice co2 um ck2], .agg #[.int .i64 day, .slice fa fm fc]] V fun e w' => e = .returned (vlV v2) ∧ Below V.heap.size V w') :
    Calls Try.prog 76 #[.agg #[.int .i64 xo, .int .i64 xn, .string xs, .slice (some a) 3 k], .agg #[.int .i64 day, .slice fa fm fc]] w fun e w' => e = .returned (vlV (chV v0 v1 v2)) ∧ Below w.heap.size w w' := by
  have GA := Lib.hid (entry_made (.int .i64 xo) (.int .i64 xn) (.string xs) (.slice (some a) 3 k) (.int .i64 day) (.slice fa fm fc) w)
  have C0 := Lib.hid h0
  have C1 := Lib.hid h1
  have C2 := Lib.hid h2
  have HAB := Lib.hid ha
  have HC0 : Hid (∀ V, Below w.heap.size w V → FourX V a (.int .i64 yo) (.int .i64 yn) (.string ys) (.slice co cm ck)) := Lib.hid fun V hV => hf0.stay (hV.block _ ha)
  have HC1 : Hid (∀ V, Below w.heap.size w V → FourX V ⟨a.block, a.off + 4, none⟩ (.int .i64 zo) (.int .i64 zn) (.string zs) (.slice co1 dm ck1)) := Lib.hid fun V hV => hf1.stay (hV.block _ ha)
  have HC2 : Hid (∀ V, Below w.heap.size w V → FourX V ⟨a.block, a.off + 8, none⟩ (.int .i64 uo) (.int .i64 un) (.string us) (.slice co2 um ck2)) := Lib.hid fun V hV => hf2.stay (hV.block _ ha)
  obtain ⟨r0, hr0⟩ : ∃ r, r = v0.kind := ⟨_, rfl⟩
  obtain ⟨n0, hn0⟩ : ∃ r, r = v0.n := ⟨_, rfl⟩
  obtain ⟨t0, ht0⟩ : ∃ r, r = v0.b := ⟨_, rfl⟩
  have HV0 : Hid (v0 = ⟨r0, n0, t0⟩) := Lib.hid (by rw [hr0, hn0, ht0])
  rw [show vlV v0 = .agg #[.int .i64 r0, .int .i64 n0, .bool t0] from by rw [hr0, hn0, ht0]] at C0
  clear hr0 hn0 ht0
  obtain ⟨r1, hr1⟩ : ∃ r, r = v1.kind := ⟨_, rfl⟩
  obtain ⟨n1, hn1⟩ : ∃ r, r = v1.n := ⟨_, rfl⟩
  obtain ⟨t1, ht1⟩ : ∃ r, r = v1.b := ⟨_, rfl⟩
  have HV1 : Hid (v1 = ⟨r1, n1, t1⟩) := Lib.hid (by rw [hr1, hn1, ht1])
  rw [show vlV v1 = .agg #[.int .i64 r1, .int .i64 n1, .bool t1] from by rw [hr1, hn1, ht1]] at C1
  clear hr1 hn1 ht1
  obtain ⟨r2, hr2⟩ : ∃ r, r = v2.kind := ⟨_, rfl⟩
  obtain ⟨n2, hn2⟩ : ∃ r, r = v2.n := ⟨_, rfl⟩
  obtain ⟨t2, ht2⟩ : ∃ r, r = v2.b := ⟨_, rfl⟩
  have HV2 : Hid (v2 = ⟨r2, n2, t2⟩) := Lib.hid (by rw [hr2, hn2, ht2])
  rw [show vlV v2 = .agg #[.int .i64 r2, .int .i64 n2, .bool t2] from by rw [hr2, hn2, ht2]] at C2
  clear hr2 hn2 ht2
  clear h0 h1 h2 hf0 hf1 hf2 ha
  go_enter Try.func76, Try.ntmps76
  go_upto_region 1 with fail
  obtain ⟨W, hW⟩ : ∃ X, ((w.alloc (.cells #[.int .i64 xo, .int .i64 xn, .string xs, .slice (some a) 3 k] 53)).alloc (.cells #[.int .i64 day, .slice fa fm fc] 44)).alloc (.cells #[.int .i64 0, .int .i64 0, .bool false] 99) = X := ⟨_, rfl⟩
  obtain ⟨g1, b1, b2, b3⟩ := GA.out W hW
  obtain ⟨z, hz⟩ : ∃ z, z = w.heap.size := ⟨_, rfl⟩
  rw [hW, ← hz]
  rw [← hz] at b1 b2 b3
  have HE : Hid (EvB z #[.int .i64 xo, .int .i64 xn, .string xs, .slice (some a) 3 k] #[.int .i64 day, .slice fa fm fc] w W) := Lib.hid ⟨g1, b1, b2, b3, by omega⟩
  clear hW b1 b2 b3 g1 GA hz
  have c3 : W.cell? ⟨z, 3, none⟩ = some (.slice (some a) 3 k) := cell_blk HE.out.ex 3
  obtain ⟨e0, e1⟩ := duo HE.out.en
  obtain ⟨y0, y1, y2, y3⟩ := HC0.out W HE.out.bel
  go_cut [5] (fun p wx => ∃ u : Nat, p = .pointer (some ⟨u, 0, none⟩) ∧ Hid (Below W.heap.size W wx ∧ W.heap.size ≤ u ∧ wx.heap[u]? = some (.cells #[.int .i64 r0, .int .i64 n0, .bool t0] 99 (0, 0))))
  case first =>
    have HBA : Hid (Below W.heap.size W (W.alloc (.cells #[.int .i64 0, .int .i64 0, .bool false] 99)).drew ∧ (W.alloc (.cells #[.int .i64 0, .int .i64 0, .bool false] 99)).drew.heap[W.heap.size]? = some (.cells #[.int .i64 0, .int .i64 0, .bool false] 99 (0, 0))) := Lib.hid ⟨((Below.refl _ _).alloc (Nat.le_refl _) _).drew, heap_alloc_new _ _⟩
    have HBD : Hid (Below W.heap.size W W.drew) := Lib.hid (Below.refl _ _).drew
    have HSF : Hid (∀ V, Below W.heap.size W V → V.cell? ⟨z, 3, none⟩ = some (.slice (some a) 3 k) ∧ V.cell? ⟨z + 1, 0, none⟩ = some (.int .i64 day) ∧ V.cell? ⟨z + 1, 1, none⟩ = some (.slice fa fm fc) ∧ V.cell? a = some (.int .i64 yo) ∧ V.cell? ⟨a.block, a.off + 1, none⟩ = some (.int .i64 yn) ∧ V.cell? ⟨a.block, a.off + 2, none⟩ = some (.string ys) ∧ V.cell? ⟨a.block, a.off + 3, none⟩ = some (.slice co cm ck)) := Lib.hid fun V hV => ⟨cell_blk (HE.out.next hV).ex 3, (duo (HE.out.next hV).en).1, (duo (HE.out.next hV).en).2, (HC0.out V (HE.out.next hV).bel).1, (HC0.out V (HE.out.next hV).bel).2.1, (HC0.out V (HE.out.next hV).bel).2.2.1, (HC0.out V (HE.out.next hV).bel).2.2.2⟩
    go_region_held3 (fun w' => w'.cell? ⟨z, 3, none⟩ = some (.slice (some a) 3 k) ∧ w'.cell? ⟨z + 1, 0, none⟩ = some (.int .i64 day) ∧ w'.cell? ⟨z + 1, 1, none⟩ = some (.slice fa fm fc) ∧ w'.cell? a = some (.int .i64 yo) ∧ w'.cell? ⟨a.block, a.off + 1, none⟩ = some (.int .i64 yn) ∧ w'.cell? ⟨a.block, a.off + 2, none⟩ = some (.string ys) ∧ w'.cell? ⟨a.block, a.off + 3, none⟩ = some (.slice co cm ck))
      (first | exact HSF.out _ HB4.out | exact HSF.out _ (below_mono HB4.out ((Below.refl _ _).alloc (Nat.le_refl _) _) (Nat.le_refl _)) | exact HSF.out _ (((HB4.out.setCell (p := ⟨W.heap.size, 0, none⟩) (Nat.le_refl _) _).setCell (p := ⟨W.heap.size, 1, none⟩) (Nat.le_refl _) _).setCell (p := ⟨W.heap.size, 2, none⟩) (Nat.le_refl _) _) | (go_keep; done))
      (first
        | (go_at_call 66; (with_reducible refine (C0.out _ (HE.out.next HBD.out).bel).mono ?_); rintro e w4 ⟨rfl, hb⟩; have HB4 := Lib.hid (HBD.out.trans hb); clear hb; obtain ⟨⟨n0', n1', n2'⟩, p0, p1, p2⟩ := three_zero w4 (.int .i64 0) (.int .i64 0) (.bool false) 99)
        | (go_at_call 66; (with_reducible refine (C0.out _ (HE.out.next HBA.out.1).bel).mono ?_); rintro e w4 ⟨rfl, hb⟩; have HB4 := Lib.hid (HBA.out.1.trans (hb.mono (by simp))); have HX4 := Lib.hid ((hb.block _ (by simp)).trans HBA.out.2); obtain ⟨n0', n1', n2'⟩ := trio HX4.out; have p0 : w4.frozen? ⟨W.heap.size, 0, none⟩ = false := free_blk HX4.out 0; have p1 : w4.frozen? ⟨W.heap.size, 1, none⟩ = false := free_blk HX4.out 1; have p2 : w4.frozen? ⟨W.heap.size, 2, none⟩ = false := free_blk HX4.out 2; clear hb))
    · go_wp2_with fail
      go_meet
      exact ⟨w4.heap.size, rfl, Lib.hid ⟨below_mono HB4.out ((Below.refl _ _).alloc (Nat.le_refl _) _) (Nat.le_refl _), HB4.out.size, heap_alloc_new _ _⟩⟩
    · go_wp2_with fail
      go_meet
      obtain ⟨k9, _, _, x9⟩ := three_set w4 W.heap.size (.int .i64 r0) (.int .i64 n0) (.bool t0) _ _ ⟨_, _, _, rfl⟩ HX4.out _ rfl
      exact ⟨W.heap.size, rfl, Lib.hid ⟨HB4.out.trans k9, Nat.le_refl _, x9⟩⟩
  case rest =>
    obtain ⟨u, rfl, HU⟩ := hcut
    clear c3 e0 e1 y0 y1 y2 y3
    have HE2 := Lib.hid (HE.out.next HU.out.1)
    have HXU := Lib.hid HU.out.2.2
    have HXB := Lib.hid HE2.out.va
    obtain ⟨k0, k1, k2⟩ := trio HXU.out
    by_cases h3 : r0 = 2
    · subst h3
      cases t0 with
      | true =>
        have HR : Hid (chV v0 v1 v2 = ⟨r1, n1, t1⟩) := Lib.hid (by rw [HV0.out]; exact HV1.out)
        go_upto_region 5 with fail
        have c3 : wc.cell? ⟨z, 3, none⟩ = some (.slice (some a) 3 k) := cell_blk HE2.out.ex 3
        obtain ⟨e0, e1⟩ := duo HE2.out.en
        obtain ⟨y0, y1, y2, y3⟩ := HC1.out wc HE2.out.bel
        have HNE : Hid (z ≠ z + 1 + 1 ∧ z + 1 ≠ z + 1 + 1 ∧ a.block ≠ z + 1 + 1) := Lib.hid ⟨by omega, by omega, by have h1 := HAB.out; have h2 := HE2.out.le; omega⟩
        have HBD : Hid (Below wc.heap.size wc wc.drew) := Lib.hid (Below.refl _ _).drew
        have HSF : Hid (∀ V, Below wc.heap.size wc V → V.cell? ⟨z, 3, none⟩ = some (.slice (some a) 3 k) ∧ V.cell? ⟨z + 1, 0, none⟩ = some (.int .i64 day) ∧ V.cell? ⟨z + 1, 1, none⟩ = some (.slice fa fm fc) ∧ V.cell? ⟨a.block, a.off + 4, none⟩ = some (.int .i64 zo) ∧ V.cell? ⟨a.block, a.off + 4 + 1, none⟩ = some (.int .i64 zn) ∧ V.cell? ⟨a.block, a.off + 4 + 2, none⟩ = some (.string zs) ∧ V.cell? ⟨a.block, a.off + 4 + 3, none⟩ = some (.slice co1 dm ck1)) := Lib.hid fun V hV => ⟨cell_blk (HE2.out.next hV).ex 3, (duo (HE2.out.next hV).en).1, (duo (HE2.out.next hV).en).2, (HC1.out V (HE2.out.next hV).bel).1, (HC1.out V (HE2.out.next hV).bel).2.1, (HC1.out V (HE2.out.next hV).bel).2.2.1, (HC1.out V (HE2.out.next hV).bel).2.2.2⟩
        have HSB : Hid (∀ V, Below wc.heap.size wc V → (((V.setCell ⟨z + 1 + 1, 0, none⟩ (.int .i64 r1)).setCell ⟨z + 1 + 1, 1, none⟩ (.int .i64 n1)).setCell ⟨z + 1 + 1, 2, none⟩ (.bool t1)).cell? ⟨z, 3, none⟩ = some (.slice (some a) 3 k) ∧ (((V.setCell ⟨z + 1 + 1, 0, none⟩ (.int .i64 r1)).setCell ⟨z + 1 + 1, 1, none⟩ (.int .i64 n1)).setCell ⟨z + 1 + 1, 2, none⟩ (.bool t1)).cell? ⟨z + 1, 0, none⟩ = some (.int .i64 day) ∧ (((V.setCell ⟨z + 1 + 1, 0, none⟩ (.int .i64 r1)).setCell ⟨z + 1 + 1, 1, none⟩ (.int .i64 n1)).setCell ⟨z + 1 + 1, 2, none⟩ (.bool t1)).cell? ⟨z + 1, 1, none⟩ = some (.slice fa fm fc) ∧ (((V.setCell ⟨z + 1 + 1, 0, none⟩ (.int .i64 r1)).setCell ⟨z + 1 + 1, 1, none⟩ (.int .i64 n1)).setCell ⟨z + 1 + 1, 2, none⟩ (.bool t1)).cell? ⟨a.block, a.off + 4, none⟩ = some (.int .i64 zo) ∧ (((V.setCell ⟨z + 1 + 1, 0, none⟩ (.int .i64 r1)).setCell ⟨z + 1 + 1, 1, none⟩ (.int .i64 n1)).setCell ⟨z + 1 + 1, 2, none⟩ (.bool t1)).cell? ⟨a.block, a.off + 4 + 1, none⟩ = some (.int .i64 zn) ∧ (((V.setCell ⟨z + 1 + 1, 0, none⟩ (.int .i64 r1)).setCell ⟨z + 1 + 1, 1, none⟩ (.int .i64 n1)).setCell ⟨z + 1 + 1, 2, none⟩ (.bool t1)).cell? ⟨a.block, a.off + 4 + 2, none⟩ = some (.string zs) ∧ (((V.setCell ⟨z + 1 + 1, 0, none⟩ (.int .i64 r1)).setCell ⟨z + 1 + 1, 1, none⟩ (.int .i64 n1)).setCell ⟨z + 1 + 1, 2, none⟩ (.bool t1)).cell? ⟨a.block, a.off + 4 + 3, none⟩ = some (.slice co1 dm ck1)) := Lib.hid fun V hV => ⟨(set3_cell V (z + 1 + 1) _ _ _ (p := ⟨z, 3, none⟩) HNE.out.1).trans (HSF.out V hV).1, (set3_cell V (z + 1 + 1) _ _ _ (p := ⟨z + 1, 0, none⟩) HNE.out.2.1).trans (HSF.out V hV).2.1, (set3_cell V (z + 1 + 1) _ _ _ (p := ⟨z + 1, 1, none⟩) HNE.out.2.1).trans (HSF.out V hV).2.2.1, (set3_cell V (z + 1 + 1) _ _ _ (p := ⟨a.block, a.off + 4, none⟩) HNE.out.2.2).trans (HSF.out V hV).2.2.2.1, (set3_cell V (z + 1 + 1) _ _ _ (p := ⟨a.block, a.off + 4 + 1, none⟩) HNE.out.2.2).trans (HSF.out V hV).2.2.2.2.1, (set3_cell V (z + 1 + 1) _ _ _ (p := ⟨a.block, a.off + 4 + 2, none⟩) HNE.out.2.2).trans (HSF.out V hV).2.2.2.2.2.1, (set3_cell V (z + 1 + 1) _ _ _ (p := ⟨a.block, a.off + 4 + 3, none⟩) HNE.out.2.2).trans (HSF.out V hV).2.2.2.2.2.2⟩
        go_region_held3 (fun w' => w'.cell? ⟨z, 3, none⟩ = some (.slice (some a) 3 k) ∧ w'.cell? ⟨z + 1, 0, none⟩ = some (.int .i64 day) ∧ w'.cell? ⟨z + 1, 1, none⟩ = some (.slice fa fm fc) ∧ w'.cell? ⟨a.block, a.off + 4, none⟩ = some (.int .i64 zo) ∧ w'.cell? ⟨a.block, a.off + 4 + 1, none⟩ = some (.int .i64 zn) ∧ w'.cell? ⟨a.block, a.off + 4 + 2, none⟩ = some (.string zs) ∧ w'.cell? ⟨a.block, a.off + 4 + 3, none⟩ = some (.slice co1 dm ck1))
          (first | exact HSF.out _ HB4.out | exact HSB.out w4 HB4.out | (go_keep; done))
          ((go_at_call 66; (with_reducible refine (C1.out _ (HE2.out.next HBD.out).bel).mono ?_); rintro e w4 ⟨rfl, hb⟩; have HB4 := Lib.hid (HBD.out.trans hb); clear hb; have HX4 := Lib.hid ((HB4.out.block _ (lt_of_heap HXB.out)).trans HXB.out); obtain ⟨n0', n1', n2'⟩ := trio HX4.out; have p0 : w4.frozen? ⟨z + 1 + 1, 0, none⟩ = false := free_blk HX4.out 0; have p1 : w4.frozen? ⟨z + 1 + 1, 1, none⟩ = false := free_blk HX4.out 1; have p2 : w4.frozen? ⟨z + 1 + 1, 2, none⟩ = false := free_blk HX4.out 2))
        go_wp2_with fail
        obtain ⟨W10, hW10⟩ : ∃ X, (((w4.setCell ⟨z + 1 + 1, 0, none⟩ (.int .i64 r1)).setCell ⟨z + 1 + 1, 1, none⟩ (.int .i64 n1)).setCell ⟨z + 1 + 1, 2, none⟩ (.bool t1)) = X := ⟨_, rfl⟩
        obtain ⟨k9, _, _, x9⟩ := three_set w4 (z + 1 + 1) (.int .i64 r1) (.int .i64 n1) (.bool t1) _ _ ⟨_, _, _, rfl⟩ HX4.out W10 hW10
        rw [hW10]
        clear n0' n1' n2' p0 p1 p2
        obtain ⟨d0, d1, d2⟩ := trio x9
        exact bodyPost_ret (v := .agg #[.int .i64 r1, .int .i64 n1, .bool t1]) (by simp [results, Try.results76, go_sem, d0, d1, d2]) rfl ⟨by rw [HR.out], ((HE2.out.bel).trans (HB4.out.mono HE2.out.bel.size)).trans (k9.mono (by have := HE2.out.le; omega))⟩
      | false =>
        have HR : Hid (chV v0 v1 v2 = ⟨r2, n2, t2⟩) := Lib.hid (by rw [HV0.out]; exact HV2.out)
        go_upto_region 6 with fail
        have c3 : wc.cell? ⟨z, 3, none⟩ = some (.slice (some a) 3 k) := cell_blk HE2.out.ex 3
        obtain ⟨e0, e1⟩ := duo HE2.out.en
        obtain ⟨y0, y1, y2, y3⟩ := HC2.out wc HE2.out.bel
        have HNE : Hid (z ≠ z + 1 + 1 ∧ z + 1 ≠ z + 1 + 1 ∧ a.block ≠ z + 1 + 1) := Lib.hid ⟨by omega, by omega, by have h1 := HAB.out; have h2 := HE2.out.le; omega⟩
        have HBD : Hid (Below wc.heap.size wc wc.drew) := Lib.hid (Below.refl _ _).drew
        have HSF : Hid (∀ V, Below wc.heap.size wc V → V.cell? ⟨z, 3, none⟩ = some (.slice (some a) 3 k) ∧ V.cell? ⟨z + 1, 0, none⟩ = some (.int .i64 day) ∧ V.cell? ⟨z + 1, 1, none⟩ = some (.slice fa fm fc) ∧ V.cell? ⟨a.block, a.off + 8, none⟩ = some (.int .i64 uo) ∧ V.cell? ⟨a.block, a.off + 8 + 1, none⟩ = some (.int .i64 un) ∧ V.cell? ⟨a.block, a.off + 8 + 2, none⟩ = some (.string us) ∧ V.cell? ⟨a.block, a.off + 8 + 3, none⟩ = some (.slice co2 um ck2)) := Lib.hid fun V hV => ⟨cell_blk (HE2.out.next hV).ex 3, (duo (HE2.out.next hV).en).1, (duo (HE2.out.next hV).en).2, (HC2.out V (HE2.out.next hV).bel).1, (HC2.out V (HE2.out.next hV).bel).2.1, (HC2.out V (HE2.out.next hV).bel).2.2.1, (HC2.out V (HE2.out.next hV).bel).2.2.2⟩
        have HSB : Hid (∀ V, Below wc.heap.size wc V → (((V.setCell ⟨z + 1 + 1, 0, none⟩ (.int .i64 r2)).setCell ⟨z + 1 + 1, 1, none⟩ (.int .i64 n2)).setCell ⟨z + 1 + 1, 2, none⟩ (.bool t2)).cell? ⟨z, 3, none⟩ = some (.slice (some a) 3 k) ∧ (((V.setCell ⟨z + 1 + 1, 0, none⟩ (.int .i64 r2)).setCell ⟨z + 1 + 1, 1, none⟩ (.int .i64 n2)).setCell ⟨z + 1 + 1, 2, none⟩ (.bool t2)).cell? ⟨z + 1, 0, none⟩ = some (.int .i64 day) ∧ (((V.setCell ⟨z + 1 + 1, 0, none⟩ (.int .i64 r2)).setCell ⟨z + 1 + 1, 1, none⟩ (.int .i64 n2)).setCell ⟨z + 1 + 1, 2, none⟩ (.bool t2)).cell? ⟨z + 1, 1, none⟩ = some (.slice fa fm fc) ∧ (((V.setCell ⟨z + 1 + 1, 0, none⟩ (.int .i64 r2)).setCell ⟨z + 1 + 1, 1, none⟩ (.int .i64 n2)).setCell ⟨z + 1 + 1, 2, none⟩ (.bool t2)).cell? ⟨a.block, a.off + 8, none⟩ = some (.int .i64 uo) ∧ (((V.setCell ⟨z + 1 + 1, 0, none⟩ (.int .i64 r2)).setCell ⟨z + 1 + 1, 1, none⟩ (.int .i64 n2)).setCell ⟨z + 1 + 1, 2, none⟩ (.bool t2)).cell? ⟨a.block, a.off + 8 + 1, none⟩ = some (.int .i64 un) ∧ (((V.setCell ⟨z + 1 + 1, 0, none⟩ (.int .i64 r2)).setCell ⟨z + 1 + 1, 1, none⟩ (.int .i64 n2)).setCell ⟨z + 1 + 1, 2, none⟩ (.bool t2)).cell? ⟨a.block, a.off + 8 + 2, none⟩ = some (.string us) ∧ (((V.setCell ⟨z + 1 + 1, 0, none⟩ (.int .i64 r2)).setCell ⟨z + 1 + 1, 1, none⟩ (.int .i64 n2)).setCell ⟨z + 1 + 1, 2, none⟩ (.bool t2)).cell? ⟨a.block, a.off + 8 + 3, none⟩ = some (.slice co2 um ck2)) := Lib.hid fun V hV => ⟨(set3_cell V (z + 1 + 1) _ _ _ (p := ⟨z, 3, none⟩) HNE.out.1).trans (HSF.out V hV).1, (set3_cell V (z + 1 + 1) _ _ _ (p := ⟨z + 1, 0, none⟩) HNE.out.2.1).trans (HSF.out V hV).2.1, (set3_cell V (z + 1 + 1) _ _ _ (p := ⟨z + 1, 1, none⟩) HNE.out.2.1).trans (HSF.out V hV).2.2.1, (set3_cell V (z + 1 + 1) _ _ _ (p := ⟨a.block, a.off + 8, none⟩) HNE.out.2.2).trans (HSF.out V hV).2.2.2.1, (set3_cell V (z + 1 + 1) _ _ _ (p := ⟨a.block, a.off + 8 + 1, none⟩) HNE.out.2.2).trans (HSF.out V hV).2.2.2.2.1, (set3_cell V (z + 1 + 1) _ _ _ (p := ⟨a.block, a.off + 8 + 2, none⟩) HNE.out.2.2).trans (HSF.out V hV).2.2.2.2.2.1, (set3_cell V (z + 1 + 1) _ _ _ (p := ⟨a.block, a.off + 8 + 3, none⟩) HNE.out.2.2).trans (HSF.out V hV).2.2.2.2.2.2⟩
        go_region_held3 (fun w' => w'.cell? ⟨z, 3, none⟩ = some (.slice (some a) 3 k) ∧ w'.cell? ⟨z + 1, 0, none⟩ = some (.int .i64 day) ∧ w'.cell? ⟨z + 1, 1, none⟩ = some (.slice fa fm fc) ∧ w'.cell? ⟨a.block, a.off + 8, none⟩ = some (.int .i64 uo) ∧ w'.cell? ⟨a.block, a.off + 8 + 1, none⟩ = some (.int .i64 un) ∧ w'.cell? ⟨a.block, a.off + 8 + 2, none⟩ = some (.string us) ∧ w'.cell? ⟨a.block, a.off + 8 + 3, none⟩ = some (.slice co2 um ck2))
          (first | exact HSF.out _ HB4.out | exact HSB.out w4 HB4.out | (go_keep; done))
          ((go_at_call 66; (with_reducible refine (C2.out _ (HE2.out.next HBD.out).bel).mono ?_); rintro e w4 ⟨rfl, hb⟩; have HB4 := Lib.hid (HBD.out.trans hb); clear hb; have HX4 := Lib.hid ((HB4.out.block _ (lt_of_heap HXB.out)).trans HXB.out); obtain ⟨n0', n1', n2'⟩ := trio HX4.out; have p0 : w4.frozen? ⟨z + 1 + 1, 0, none⟩ = false := free_blk HX4.out 0; have p1 : w4.frozen? ⟨z + 1 + 1, 1, none⟩ = false := free_blk HX4.out 1; have p2 : w4.frozen? ⟨z + 1 + 1, 2, none⟩ = false := free_blk HX4.out 2))
        go_wp2_with fail
        obtain ⟨W10, hW10⟩ : ∃ X, (((w4.setCell ⟨z + 1 + 1, 0, none⟩ (.int .i64 r2)).setCell ⟨z + 1 + 1, 1, none⟩ (.int .i64 n2)).setCell ⟨z + 1 + 1, 2, none⟩ (.bool t2)) = X := ⟨_, rfl⟩
        obtain ⟨k9, _, _, x9⟩ := three_set w4 (z + 1 + 1) (.int .i64 r2) (.int .i64 n2) (.bool t2) _ _ ⟨_, _, _, rfl⟩ HX4.out W10 hW10
        rw [hW10]
        clear n0' n1' n2' p0 p1 p2
        obtain ⟨d0, d1, d2⟩ := trio x9
        exact bodyPost_ret (v := .agg #[.int .i64 r2, .int .i64 n2, .bool t2]) (by simp [results, Try.results76, go_sem, d0, d1, d2]) rfl ⟨by rw [HR.out], ((HE2.out.bel).trans (HB4.out.mono HE2.out.bel.size)).trans (k9.mono (by have := HE2.out.le; omega))⟩
    · have f3 : (r0 == 2) = false := by simp [h3]
      have HR : Hid (chV v0 v1 v2 = ⟨r0, n0, t0⟩) := Lib.hid (by unfold chV; rw [if_neg (by rw [HV0.out]; exact h3)]; exact HV0.out)
      go_upto_region 3 with fail
      obtain ⟨q0', q1', q2'⟩ := trio HE2.out.va
      have p0 : wc.frozen? ⟨z + 1 + 1, 0, none⟩ = false := free_blk HE2.out.va 0
      have p1 : wc.frozen? ⟨z + 1 + 1, 1, none⟩ = false := free_blk HE2.out.va 1
      have p2 : wc.frozen? ⟨z + 1 + 1, 2, none⟩ = false := free_blk HE2.out.va 2
      go_wp2_with fail
      have HS9 := Lib.hid (three_set wc (z + 1 + 1) (.int .i64 r0) (.int .i64 n0) (.bool t0) _ _ ⟨_, _, _, rfl⟩ HE2.out.va)
      clear q0' q1' q2' p0 p1 p2
      obtain ⟨W9, hW9⟩ : ∃ X, (((wc.setCell ⟨z + 1 + 1, 0, none⟩ (.int .i64 r0)).setCell ⟨z + 1 + 1, 1, none⟩ (.int .i64 n0)).setCell ⟨z + 1 + 1, 2, none⟩ (.bool t0)) = X := ⟨_, rfl⟩
      obtain ⟨k9, _, _, x9⟩ := HS9.out W9 hW9
      rw [hW9]
      obtain ⟨d0, d1, d2⟩ := trio x9
      exact bodyPost_ret (v := .agg #[.int .i64 r0, .int .i64 n0, .bool t0]) (by simp [results, Try.results76, go_sem, d0, d1, d2]) rfl ⟨by rw [HR.out], HE2.out.bel.trans (k9.mono (by have := HE2.out.le; omega))⟩
end Go.Proofs.Ythhimllddgfddaa
namespace Go.Proofs.Ythhimllddgfddaa
open Go.RowKit Go.PlainAid Go.Sort
set_option linter.unusedVariables false
set_option linter.unusedSimpArgs false
/-- What a node's op is asked of numbers. -/
def wokN (P : Int → Int → Int → Prop) (o : Int) (vs : List Vl) : Prop := match vs with
  | [a] => o = 20 → P o a.n a.n
  | [a, b] => 5 ≤ o ∧ o ≤ 16 → P o a.n b.n
  | _ => True
def Xp.wok (P : Int → Int → Int → Prop) (sn : ByteArray → Option Fx) (day : Int) : Xp → Prop
  | .mk o n s l => wokN P o (Xp.ev.evs sn day l) ∧ woks l
where woks : List Xp → Prop
  | [] => True
  | x :: t => x.wok P sn day ∧ woks t
theorem woks_all (P : Int → Int → Int → Prop) (sn : ByteArray → Option Fx) (day : Int) (l : List Xp) : Xp.wok.woks P sn day l ↔ ∀ y ∈ l, y.wok P sn day := by
  induction l with
  | nil => simp [Xp.wok.woks]
  | cons x t ih => simp [Xp.wok.woks, ih]
theorem Xp.wok_eq (P : Int → Int → Int → Prop) (sn : ByteArray → Option Fx) (day : Int) (x : Xp) : x.wok P sn day ↔ wokN P x.op (x.args.map (Xp.ev sn day)) ∧ ∀ y ∈ x.args, y.wok P sn day := by
  cases x with
  | mk o n s l =>
    show wokN P o (Xp.ev.evs sn day l) ∧ Xp.wok.woks P sn day l ↔ _
    rw [evs_map, woks_all]
    exact Iff.rfl
theorem EvB.set {z u : Nat} {xv ev : Array Value} {w W V : World} (h : EvB z xv ev w W) (hu : z + 1 + 1 < u) (hs : ∀ b, b ≠ u → V.heap[b]? = W.heap[b]?) (hb : Below w.heap.size w V) : EvB z xv ev w V :=
  ⟨hb, (hs _ (by omega)).trans h.ex, (hs _ (by omega)).trans h.en, (hs _ (by omega)).trans h.va, h.le⟩
set_option maxRecDepth 100000 in
set_option maxHeartbeats 16000000 in
theorem eval_any {S R : Nat → Prop} {B : Nat} (hS : ∀ b, S b → b < B) (hR : ∀ b, R b → b < B) {P : Int → Int → Int → Prop} (hW : ∀ o a b, P o a b → ∀ w, Calls Try.prog 78 #[.int .i64 o, .int .i64 a, .int .i64 b] w fun e w' => e = .returned (vlV (wkV o a b)) ∧ Below w.heap.size w w') {F : List Fx} {fa : Option Addr} {fc : Nat} {day : Int} (hl : F.length ≤ 200) (x : Xp) : ∀ (bo : Option Addr) (k : Nat) (w : World), B ≤ w.heap.size → x.blt = true → x.wok P (fun s => seenF day s F) day → x.args.length ≤ k → ExL S w x.args bo → FxA R fa F w →
    Calls Try.prog 66 #[exV x bo k, .agg #[.int .i64 day, .slice fa F.length fc]] w fun e w' => e = .returned (vlV (x.ev (fun s => seenF day s F) day)) ∧ Below w.heap.size w w' := by
  induction x using Xp.ind with
  | h x IH =>
  intro bo k w hB hb hok hk hx hfx
  obtain ⟨hlen, ⟨hp1, hp2⟩, hbl⟩ := xblt_len hb
  have hev := x.ev_eq (fun s => seenF day s F) day
  have hwk := (x.wok_eq P (fun s => seenF day s F) day).1 hok
  obtain ⟨l, hl'⟩ : ∃ l, l = x.args := ⟨_, rfl⟩
  rw [← hl'] at IH hk hx hlen hev hbl hwk
  have hS' : ∀ b, S b → b < w.heap.size := fun b h => by have := hS b h; omega
  have hR' : ∀ b, R b → b < w.heap.size := fun b h => by have := hR b h; omega
  have CSN : Hid (∀ s W, Below w.heap.size w W → Calls Try.prog 74 #[.agg #[.int .i64 day, .slice fa F.length fc], .string s] W fun e w' => e = .returned (.tuple #[.int .i64 (snV (seenF day s F)), .bool (snB (seenF day s F))]) ∧ Below W.heap.size W w') := Lib.hid fun s W h => seen_any day s W (hfx.stay (fun _ h => h) fun b hb => h.block b (hR' b hb)) hl fun b hb => Nat.lt_of_lt_of_le (hR' b hb) h.size
  have HI : Hid (∀ y ∈ l, ∀ (co : Option Addr) (ck : Nat), y.args.length ≤ ck → ExL S w y.args co → ∀ W, Below w.heap.size w W → Calls Try.prog 66 #[exV y co ck, .agg #[.int .i64 day, .slice fa F.length fc]] W fun e w' => e = .returned (vlV (y.ev (fun s => seenF day s F) day)) ∧ Below W.heap.size W w') := Lib.hid fun y hy co ck h1 h2 W h => IH y hy co ck W (by have := h.size; omega) (hbl y hy) (hwk.2 y hy) h1 (h2.stay (fun _ h => h) fun b hb => h.block b (hS' b hb)) (hfx.stay (fun _ h => h) fun b hb => h.block b (hR' b hb))
  obtain ⟨fm, hfm⟩ : ∃ m, m = F.length := ⟨_, rfl⟩
  rw [← hfm] at CSN HI ⊢
  obtain ⟨m, hm⟩ : ∃ m, m = l.length := ⟨_, rfl⟩
  obtain ⟨xo, hxo⟩ : ∃ v, v = x.op := ⟨_, rfl⟩
  obtain ⟨xn, hxn⟩ : ∃ v, v = x.n := ⟨_, rfl⟩
  obtain ⟨xs, hxs⟩ : ∃ v, v = x.nm := ⟨_, rfl⟩
  rw [show exV x bo k = .agg #[.int .i64 xo, .int .i64 xn, .string xs, .slice bo m k] from by rw [hm, hl', hxo, hxn, hxs]]
  rw [← hxo] at hlen hp1 hp2 hev hwk
  rw [← hxn, ← hxs] at hev
  obtain ⟨RES, hRES⟩ : ∃ v, v = x.ev (fun s => seenF day s F) day := ⟨_, rfl⟩
  rw [← hRES] at hev ⊢
  have HEV := Lib.hid hev
  have HWK := Lib.hid hwk.1
  have HM := Lib.hid hm
  have HXX := Lib.hid hx
  have HSB := Lib.hid hS'
  have HKM := Lib.hid (show l.length ≤ k from hk)
  have HW := Lib.hid hW
  rw [← hm] at hlen
  have CN : Hid (∀ (n : Int) W, Calls Try.prog 73 #[.int .i64 n, .bool true] W fun e w' => e = .returned (.agg #[.int .i64 1, .int .i64 n, .bool false]) ∧ Below W.heap.size W w') := Lib.hid fun n W => number_yes n W
  have CT : Hid (∀ (t : Bool) W, Calls Try.prog 77 #[.bool t] W fun e w' => e = .returned (.agg #[.int .i64 2, .int .i64 0, .bool t]) ∧ Below W.heap.size W w') := Lib.hid fun t W => truth_any t W
  have GA := Lib.hid (entry_made (.int .i64 xo) (.int .i64 xn) (.string xs) (.slice bo m k) (.int .i64 day) (.slice fa fm fc) w)
  clear IH hb hok hk hx hfx hev hwk hl' hS' hR' hm hxo hxn hxs hRES hbl hfm hl hB
  by_cases q1 : xo = 1
  · subst q1
    go_enter Try.func66, Try.ntmps66
    go_upto_region 1 with fail
    obtain ⟨W, hW⟩ : ∃ X, ((w.alloc (.cells #[.int .i64 1, .int .i64 xn, .string xs, .slice bo m k] 53)).alloc (.cells #[.int .i64 day, .slice fa fm fc] 44)).alloc (.cells #[.int .i64 0, .int .i64 0, .bool false] 99) = X := ⟨_, rfl⟩
    obtain ⟨g1, b1, b2, b3⟩ := GA.out W hW
    obtain ⟨z, hz⟩ : ∃ z, z = w.heap.size := ⟨_, rfl⟩
    rw [hW, ← hz]
    rw [← hz] at b1 b2 b3
    have HE : Hid (EvB z #[.int .i64 1, .int .i64 xn, .string xs, .slice bo m k] #[.int .i64 day, .slice fa fm fc] w W) := Lib.hid ⟨g1, b1, b2, b3, by omega⟩
    clear hW b1 b2 b3 g1 GA hz
    obtain ⟨c0, c1, c2, c3⟩ := quad HE.out.ex
    obtain ⟨e0, e1⟩ := duo HE.out.en
    go_wp2_with (go_at_call 73; (with_reducible refine (CN.out xn _).mono ?_); rintro e w4 ⟨rfl, hb⟩; have HB4 := Lib.hid hb; have HX4 := Lib.hid ((hb.block _ (lt_of_heap HE.out.va)).trans HE.out.va); obtain ⟨n0', n1', n2'⟩ := trio HX4.out; have p0 : w4.frozen? ⟨z + 1 + 1, 0, none⟩ = false := free_blk HX4.out 0; have p1 : w4.frozen? ⟨z + 1 + 1, 1, none⟩ = false := free_blk HX4.out 1; have p2 : w4.frozen? ⟨z + 1 + 1, 2, none⟩ = false := free_blk HX4.out 2; clear hb)
    obtain ⟨W10, hW10⟩ : ∃ X, (((w4.setCell ⟨z + 1 + 1, 0, none⟩ (.int .i64 1)).setCell ⟨z + 1 + 1, 1, none⟩ (.int .i64 xn)).setCell ⟨z + 1 + 1, 2, none⟩ (.bool false)) = X := ⟨_, rfl⟩
    obtain ⟨k9, _, _, x9⟩ := three_set w4 (z + 1 + 1) (.int .i64 1) (.int .i64 xn) (.bool false) _ _ ⟨_, _, _, rfl⟩ HX4.out W10 hW10
    rw [hW10]
    clear n0' n1' n2' p0 p1 p2
    obtain ⟨d0, d1, d2⟩ := trio x9
    exact bodyPost_ret (v := .agg #[.int .i64 1, .int .i64 xn, .bool false]) (by simp [results, Try.results66, go_sem, d0, d1, d2]) rfl ⟨by rw [HEV.out]; rfl, ((HE.out.bel).trans (HB4.out.mono HE.out.bel.size)).trans (k9.mono (by have := HE.out.le; omega))⟩
  · have e1 : (xo == 1) = false := by simp [q1]
    by_cases q2 : xo = 2
    · subst q2
      go_enter Try.func66, Try.ntmps66
      go_upto_region 1 with fail
      obtain ⟨W, hW⟩ : ∃ X, ((w.alloc (.cells #[.int .i64 2, .int .i64 xn, .string xs, .slice bo m k] 53)).alloc (.cells #[.int .i64 day, .slice fa fm fc] 44)).alloc (.cells #[.int .i64 0, .int .i64 0, .bool false] 99) = X := ⟨_, rfl⟩
      obtain ⟨g1, b1, b2, b3⟩ := GA.out W hW
      obtain ⟨z, hz⟩ : ∃ z, z = w.heap.size := ⟨_, rfl⟩
      rw [hW, ← hz]
      rw [← hz] at b1 b2 b3
      have HE : Hid (EvB z #[.int .i64 2, .int .i64 xn, .string xs, .slice bo m k] #[.int .i64 day, .slice fa fm fc] w W) := Lib.hid ⟨g1, b1, b2, b3, by omega⟩
      clear hW b1 b2 b3 g1 GA hz
      obtain ⟨c0, c1, c2, c3⟩ := quad HE.out.ex
      obtain ⟨e0, e1⟩ := duo HE.out.en
      go_wp2_with (go_at_call 73; (with_reducible refine (CN.out xn _).mono ?_); rintro e w4 ⟨rfl, hb⟩; have HB4 := Lib.hid hb; have HX4 := Lib.hid ((hb.block _ (lt_of_heap HE.out.va)).trans HE.out.va); obtain ⟨n0', n1', n2'⟩ := trio HX4.out; have p0 : w4.frozen? ⟨z + 1 + 1, 0, none⟩ = false := free_blk HX4.out 0; have p1 : w4.frozen? ⟨z + 1 + 1, 1, none⟩ = false := free_blk HX4.out 1; have p2 : w4.frozen? ⟨z + 1 + 1, 2, none⟩ = false := free_blk HX4.out 2; clear hb)
      obtain ⟨W10, hW10⟩ : ∃ X, (((w4.setCell ⟨z + 1 + 1, 0, none⟩ (.int .i64 1)).setCell ⟨z + 1 + 1, 1, none⟩ (.int .i64 xn)).setCell ⟨z + 1 + 1, 2, none⟩ (.bool false)) = X := ⟨_, rfl⟩
      obtain ⟨k9, _, _, x9⟩ := three_set w4 (z + 1 + 1) (.int .i64 1) (.int .i64 xn) (.bool false) _ _ ⟨_, _, _, rfl⟩ HX4.out W10 hW10
      rw [hW10]
      clear n0' n1' n2' p0 p1 p2
      obtain ⟨d0, d1, d2⟩ := trio x9
      exact bodyPost_ret (v := .agg #[.int .i64 1, .int .i64 xn, .bool false]) (by simp [results, Try.results66, go_sem, d0, d1, d2]) rfl ⟨by rw [HEV.out]; rfl, ((HE.out.bel).trans (HB4.out.mono HE.out.bel.size)).trans (k9.mono (by have := HE.out.le; omega))⟩
    · have e2 : (xo == 2) = false := by simp [q2]
      by_cases q4 : xo = 4
      · subst q4
        go_enter Try.func66, Try.ntmps66
        go_upto_region 1 with fail
        obtain ⟨W, hW⟩ : ∃ X, ((w.alloc (.cells #[.int .i64 4, .int .i64 xn, .string xs, .slice bo m k] 53)).alloc (.cells #[.int .i64 day, .slice fa fm fc] 44)).alloc (.cells #[.int .i64 0, .int .i64 0, .bool false] 99) = X := ⟨_, rfl⟩
        obtain ⟨g1, b1, b2, b3⟩ := GA.out W hW
        obtain ⟨z, hz⟩ : ∃ z, z = w.heap.size := ⟨_, rfl⟩
        rw [hW, ← hz]
        rw [← hz] at b1 b2 b3
        have HE : Hid (EvB z #[.int .i64 4, .int .i64 xn, .string xs, .slice bo m k] #[.int .i64 day, .slice fa fm fc] w W) := Lib.hid ⟨g1, b1, b2, b3, by omega⟩
        clear hW b1 b2 b3 g1 GA hz
        obtain ⟨c0, c1, c2, c3⟩ := quad HE.out.ex
        obtain ⟨e0, e1⟩ := duo HE.out.en
        go_wp2_with (go_at_call 73; (with_reducible refine (CN.out day _).mono ?_); rintro e w4 ⟨rfl, hb⟩; have HB4 := Lib.hid hb; have HX4 := Lib.hid ((hb.block _ (lt_of_heap HE.out.va)).trans HE.out.va); obtain ⟨n0', n1', n2'⟩ := trio HX4.out; have p0 : w4.frozen? ⟨z + 1 + 1, 0, none⟩ = false := free_blk HX4.out 0; have p1 : w4.frozen? ⟨z + 1 + 1, 1, none⟩ = false := free_blk HX4.out 1; have p2 : w4.frozen? ⟨z + 1 + 1, 2, none⟩ = false := free_blk HX4.out 2; clear hb)
        obtain ⟨W10, hW10⟩ : ∃ X, (((w4.setCell ⟨z + 1 + 1, 0, none⟩ (.int .i64 1)).setCell ⟨z + 1 + 1, 1, none⟩ (.int .i64 day)).setCell ⟨z + 1 + 1, 2, none⟩ (.bool false)) = X := ⟨_, rfl⟩
        obtain ⟨k9, _, _, x9⟩ := three_set w4 (z + 1 + 1) (.int .i64 1) (.int .i64 day) (.bool false) _ _ ⟨_, _, _, rfl⟩ HX4.out W10 hW10
        rw [hW10]
        clear n0' n1' n2' p0 p1 p2
        obtain ⟨d0, d1, d2⟩ := trio x9
        exact bodyPost_ret (v := .agg #[.int .i64 1, .int .i64 day, .bool false]) (by simp [results, Try.results66, go_sem, d0, d1, d2]) rfl ⟨by rw [HEV.out]; rfl, ((HE.out.bel).trans (HB4.out.mono HE.out.bel.size)).trans (k9.mono (by have := HE.out.le; omega))⟩
      · have e4 : (xo == 4) = false := by simp [q4]
        by_cases q3 : xo = 3
        · subst q3
          obtain ⟨sv, hsv⟩ : ∃ v, v = seenF day xs F := ⟨_, rfl⟩
          have CS1 := Lib.hid (CSN.out xs)
          rw [← hsv] at CS1
          have HSV := Lib.hid hsv
          clear hsv
          cases sv with
          | none =>
            have CS2 : Hid (∀ W, Below w.heap.size w W → Calls Try.prog 74 #[.agg #[.int .i64 day, .slice fa fm fc], .string xs] W fun e w' => e = .returned (.tuple #[.int .i64 0, .bool false]) ∧ Below W.heap.size W w') := CS1
            have HR : Hid (RES = unkV) := Lib.hid (by rw [HEV.out]; show (match seenF day xs F with | some f => numV f.val | none => unkV) = _; rw [← HSV.out])
            go_enter Try.func66, Try.ntmps66
            go_upto_region 1 with fail
            obtain ⟨W, hW⟩ : ∃ X, ((w.alloc (.cells #[.int .i64 3, .int .i64 xn, .string xs, .slice bo m k] 53)).alloc (.cells #[.int .i64 day, .slice fa fm fc] 44)).alloc (.cells #[.int .i64 0, .int .i64 0, .bool false] 99) = X := ⟨_, rfl⟩
            obtain ⟨g1, b1, b2, b3⟩ := GA.out W hW
            obtain ⟨z, hz⟩ : ∃ z, z = w.heap.size := ⟨_, rfl⟩
            rw [hW, ← hz]
            rw [← hz] at b1 b2 b3
            have HE : Hid (EvB z #[.int .i64 3, .int .i64 xn, .string xs, .slice bo m k] #[.int .i64 day, .slice fa fm fc] w W) := Lib.hid ⟨g1, b1, b2, b3, by omega⟩
            clear hW b1 b2 b3 g1 GA hz
            obtain ⟨c0, c1, c2, c3⟩ := quad HE.out.ex
            obtain ⟨e0, e1⟩ := duo HE.out.en
            go_upto_region 10 with (go_at_call 74; (with_reducible refine (CS2.out _ HE.out.bel).mono ?_); rintro e w3 ⟨rfl, hb⟩; have HE3 := Lib.hid (HE.out.next hb); clear hb)
            obtain ⟨q0', q1', q2'⟩ := trio HE3.out.va
            have p0 : w3.frozen? ⟨z + 1 + 1, 0, none⟩ = false := free_blk HE3.out.va 0
            have p1 : w3.frozen? ⟨z + 1 + 1, 1, none⟩ = false := free_blk HE3.out.va 1
            have p2 : w3.frozen? ⟨z + 1 + 1, 2, none⟩ = false := free_blk HE3.out.va 2
            go_wp2_with fail
            have HS9 := Lib.hid (three_set w3 (z + 1 + 1) (.int .i64 0) (.int .i64 0) (.bool false) _ _ ⟨_, _, _, rfl⟩ HE3.out.va)
            clear q0' q1' q2' p0 p1 p2
            obtain ⟨W9, hW9⟩ : ∃ X, (((w3.setCell ⟨z + 1 + 1, 0, none⟩ (.int .i64 0)).setCell ⟨z + 1 + 1, 1, none⟩ (.int .i64 0)).setCell ⟨z + 1 + 1, 2, none⟩ (.bool false)) = X := ⟨_, rfl⟩
            obtain ⟨k9, _, _, x9⟩ := HS9.out W9 hW9
            rw [hW9]
            obtain ⟨d0, d1, d2⟩ := trio x9
            exact bodyPost_ret (v := .agg #[.int .i64 0, .int .i64 0, .bool false]) (by simp [results, Try.results66, go_sem, d0, d1, d2]) rfl ⟨by rw [HR.out]; rfl, HE3.out.bel.trans (k9.mono (by have := HE3.out.le; omega))⟩
          | some f =>
            obtain ⟨fv, hfv⟩ : ∃ v, v = f.val := ⟨_, rfl⟩
            have CS2 : Hid (∀ W, Below w.heap.size w W → Calls Try.prog 74 #[.agg #[.int .i64 day, .slice fa fm fc], .string xs] W fun e w' => e = .returned (.tuple #[.int .i64 fv, .bool true]) ∧ Below W.heap.size W w') := by rw [hfv]; exact CS1
            have HR : Hid (RES = ⟨1, fv, false⟩) := Lib.hid (by rw [HEV.out, hfv]; show (match seenF day xs F with | some f => numV f.val | none => unkV) = _; rw [← HSV.out]; rfl)
            clear hfv
            go_enter Try.func66, Try.ntmps66
            go_upto_region 1 with fail
            obtain ⟨W, hW⟩ : ∃ X, ((w.alloc (.cells #[.int .i64 3, .int .i64 xn, .string xs, .slice bo m k] 53)).alloc (.cells #[.int .i64 day, .slice fa fm fc] 44)).alloc (.cells #[.int .i64 0, .int .i64 0, .bool false] 99) = X := ⟨_, rfl⟩
            obtain ⟨g1, b1, b2, b3⟩ := GA.out W hW
            obtain ⟨z, hz⟩ : ∃ z, z = w.heap.size := ⟨_, rfl⟩
            rw [hW, ← hz]
            rw [← hz] at b1 b2 b3
            have HE : Hid (EvB z #[.int .i64 3, .int .i64 xn, .string xs, .slice bo m k] #[.int .i64 day, .slice fa fm fc] w W) := Lib.hid ⟨g1, b1, b2, b3, by omega⟩
            clear hW b1 b2 b3 g1 GA hz
            obtain ⟨c0, c1, c2, c3⟩ := quad HE.out.ex
            obtain ⟨e0, e1⟩ := duo HE.out.en
            go_upto_region 11 with (go_at_call 74; (with_reducible refine (CS2.out _ HE.out.bel).mono ?_); rintro e w3 ⟨rfl, hb⟩; have HE3 := Lib.hid (HE.out.next hb); clear hb)
            go_wp2_with (go_at_call 73; (with_reducible refine (CN.out fv _).mono ?_); rintro e w4 ⟨rfl, hb⟩; have HB4 := Lib.hid hb; have HX4 := Lib.hid ((hb.block _ (lt_of_heap HE3.out.va)).trans HE3.out.va); obtain ⟨n0', n1', n2'⟩ := trio HX4.out; have p0 : w4.frozen? ⟨z + 1 + 1, 0, none⟩ = false := free_blk HX4.out 0; have p1 : w4.frozen? ⟨z + 1 + 1, 1, none⟩ = false := free_blk HX4.out 1; have p2 : w4.frozen? ⟨z + 1 + 1, 2, none⟩ = false := free_blk HX4.out 2; clear hb)
            obtain ⟨W10, hW10⟩ : ∃ X, (((w4.setCell ⟨z + 1 + 1, 0, none⟩ (.int .i64 1)).setCell ⟨z + 1 + 1, 1, none⟩ (.int .i64 fv)).setCell ⟨z + 1 + 1, 2, none⟩ (.bool false)) = X := ⟨_, rfl⟩
            obtain ⟨k9, _, _, x9⟩ := three_set w4 (z + 1 + 1) (.int .i64 1) (.int .i64 fv) (.bool false) _ _ ⟨_, _, _, rfl⟩ HX4.out W10 hW10
            rw [hW10]
            clear n0' n1' n2' p0 p1 p2
            obtain ⟨d0, d1, d2⟩ := trio x9
            exact bodyPost_ret (v := .agg #[.int .i64 1, .int .i64 fv, .bool false]) (by simp [results, Try.results66, go_sem, d0, d1, d2]) rfl ⟨by rw [HR.out], ((HE3.out.bel).trans (HB4.out.mono HE3.out.bel.size)).trans (k9.mono (by have := HE3.out.le; omega))⟩
        · have e3 : (xo == 3) = false := by simp [q3]
          by_cases q17 : xo = 17
          · subst q17
            have hm3 : m = 2 := by
              have h1 : kidX 17 = 2 := by decide
              omega
            subst hm3
            clear hlen
            obtain ⟨g0, g1, hu⟩ : ∃ g0 g1, l = [g0, g1] := by
              have h3 := HM.out
              match l, h3 with
              | [a0, a1], _ => exact ⟨a0, a1, rfl⟩
            subst hu
            obtain ⟨a, co, ck, rfl, hsa0, hck0, hf0, hyl0⟩ := HXX.out.get (i := 0) (x := g0) rfl
            have C0 := Lib.hid (HI.out g0 (by simp) co ck hck0 hyl0)
            obtain ⟨yo, hyo⟩ : ∃ v, v = g0.op := ⟨_, rfl⟩
            obtain ⟨yn, hyn⟩ : ∃ v, v = g0.n := ⟨_, rfl⟩
            obtain ⟨ys, hys⟩ : ∃ v, v = g0.nm := ⟨_, rfl⟩
            obtain ⟨cm, hcm⟩ : ∃ v, v = g0.args.length := ⟨_, rfl⟩
            rw [show exV g0 co ck = .agg #[.int .i64 yo, .int .i64 yn, .string ys, .slice co cm ck] from by rw [hyo, hyn, hys, hcm]] at C0
            rw [← hyo, ← hyn, ← hys, ← hcm] at hf0
            obtain ⟨v0, hv0⟩ : ∃ v, v = g0.ev (fun s => seenF day s F) day := ⟨_, rfl⟩
            rw [← hv0] at C0
            obtain ⟨a', co1, ck1, ha', hsa1, hck1, hf1, hyl1⟩ := HXX.out.get (i := 1) (x := g1) rfl
            cases ha'
            have C1 := Lib.hid (HI.out g1 (by simp) co1 ck1 hck1 hyl1)
            obtain ⟨zo, hzo⟩ : ∃ v, v = g1.op := ⟨_, rfl⟩
            obtain ⟨zn, hzn⟩ : ∃ v, v = g1.n := ⟨_, rfl⟩
            obtain ⟨zs, hzs⟩ : ∃ v, v = g1.nm := ⟨_, rfl⟩
            obtain ⟨dm, hdm⟩ : ∃ v, v = g1.args.length := ⟨_, rfl⟩
            rw [show exV g1 co1 ck1 = .agg #[.int .i64 zo, .int .i64 zn, .string zs, .slice co1 dm ck1] from by rw [hzo, hzn, hzs, hdm]] at C1
            rw [← hzo, ← hzn, ← hzs, ← hdm] at hf1
            obtain ⟨v1, hv1⟩ : ∃ v, v = g1.ev (fun s => seenF day s F) day := ⟨_, rfl⟩
            rw [← hv1] at C1
            rw [Nat.zero_mul, addr_zero] at hf0
            rw [show a.add (1 * 4) = ⟨a.block, a.off + 4, none⟩ from rfl] at hf1
            have hab : a.block < w.heap.size := HSB.out _ hsa0
            have HRV : Hid (RES = evN (fun s => seenF day s F) day 17 xn xs [v0, v1] ∧ wokN P 17 [v0, v1]) := Lib.hid (by
              have h1 := HEV.out
              have h2 := HWK.out
              simp only [List.map] at h1 h2
              rw [← hv0, ← hv1] at h1 h2
              exact ⟨h1, h2⟩)
            have hkm : 2 ≤ k := HKM.out
            clear hv0 hck0 hyl0 hsa0 hyo hyn hys hcm hv1 hck1 hyl1 hsa1 hzo hzn hzs hdm
            have CJ : Hid (∀ W, Below w.heap.size w W → Calls Try.prog 75 #[.agg #[.int .i64 17, .int .i64 xn, .string xs, .slice (some a) 2 k], .agg #[.int .i64 day, .slice fa fm fc], .bool false] W fun e w' => e = .returned (vlV (jnV false v0 v1)) ∧ Below W.heap.size W w') := Lib.hid fun W hW => joined_any false v0 v1 W (Nat.lt_of_lt_of_le hab hW.size) hkm (hf0.stay (hW.block _ hab)) (hf1.stay (hW.block _ hab)) (fun V hV => C0.out V (below_mono hW hV (Nat.le_refl _))) (fun V hV => C1.out V (below_mono hW hV (Nat.le_refl _)))
            obtain ⟨J, hJ⟩ : ∃ J, J = jnV false v0 v1 := ⟨_, rfl⟩
            rw [← hJ] at CJ
            have HR : Hid (RES = J) := Lib.hid (HRV.out.1.trans hJ.symm)
            obtain ⟨jr, jn, jt⟩ := J
            have CJ2 : Hid (∀ W, Below w.heap.size w W → Calls Try.prog 75 #[.agg #[.int .i64 17, .int .i64 xn, .string xs, .slice (some a) 2 k], .agg #[.int .i64 day, .slice fa fm fc], .bool false] W fun e w' => e = .returned (.agg #[.int .i64 jr, .int .i64 jn, .bool jt]) ∧ Below W.heap.size W w') := CJ
            clear hJ CJ hab hf0 hf1 C0 C1
            go_enter Try.func66, Try.ntmps66
            go_upto_region 1 with fail
            obtain ⟨W, hW⟩ : ∃ X, ((w.alloc (.cells #[.int .i64 17, .int .i64 xn, .string xs, .slice (some a) 2 k] 53)).alloc (.cells #[.int .i64 day, .slice fa fm fc] 44)).alloc (.cells #[.int .i64 0, .int .i64 0, .bool false] 99) = X := ⟨_, rfl⟩
            obtain ⟨g1, b1, b2, b3⟩ := GA.out W hW
            obtain ⟨z, hz⟩ : ∃ z, z = w.heap.size := ⟨_, rfl⟩
            rw [hW, ← hz]
            rw [← hz] at b1 b2 b3
            have HE : Hid (EvB z #[.int .i64 17, .int .i64 xn, .string xs, .slice (some a) 2 k] #[.int .i64 day, .slice fa fm fc] w W) := Lib.hid ⟨g1, b1, b2, b3, by omega⟩
            clear hW b1 b2 b3 g1 GA hz
            obtain ⟨c0, c1, c2, c3⟩ := quad HE.out.ex
            obtain ⟨e0, e1⟩ := duo HE.out.en
            go_wp2_with (go_at_call 75; (with_reducible refine (CJ2.out _ HE.out.bel).mono ?_); rintro e w4 ⟨rfl, hb⟩; have HB4 := Lib.hid hb; have HX4 := Lib.hid ((hb.block _ (lt_of_heap HE.out.va)).trans HE.out.va); obtain ⟨n0', n1', n2'⟩ := trio HX4.out; have p0 : w4.frozen? ⟨z + 1 + 1, 0, none⟩ = false := free_blk HX4.out 0; have p1 : w4.frozen? ⟨z + 1 + 1, 1, none⟩ = false := free_blk HX4.out 1; have p2 : w4.frozen? ⟨z + 1 + 1, 2, none⟩ = false := free_blk HX4.out 2; clear hb)
            obtain ⟨W10, hW10⟩ : ∃ X, (((w4.setCell ⟨z + 1 + 1, 0, none⟩ (.int .i64 jr)).setCell ⟨z + 1 + 1, 1, none⟩ (.int .i64 jn)).setCell ⟨z + 1 + 1, 2, none⟩ (.bool jt)) = X := ⟨_, rfl⟩
            obtain ⟨k9, _, _, x9⟩ := three_set w4 (z + 1 + 1) (.int .i64 jr) (.int .i64 jn) (.bool jt) _ _ ⟨_, _, _, rfl⟩ HX4.out W10 hW10
            rw [hW10]
            clear n0' n1' n2' p0 p1 p2
            obtain ⟨d0, d1, d2⟩ := trio x9
            exact bodyPost_ret (v := .agg #[.int .i64 jr, .int .i64 jn, .bool jt]) (by simp [results, Try.results66, go_sem, d0, d1, d2]) rfl ⟨by rw [HR.out], ((HE.out.bel).trans (HB4.out.mono HE.out.bel.size)).trans (k9.mono (by have := HE.out.le; omega))⟩
          · have e17 : (xo == 17) = false := by simp [q17]
            by_cases q18 : xo = 18
            · subst q18
              have hm3 : m = 2 := by
                have h1 : kidX 18 = 2 := by decide
                omega
              subst hm3
              clear hlen
              obtain ⟨g0, g1, hu⟩ : ∃ g0 g1, l = [g0, g1] := by
                have h3 := HM.out
                match l, h3 with
                | [a0, a1], _ => exact ⟨a0, a1, rfl⟩
              subst hu
              obtain ⟨a, co, ck, rfl, hsa0, hck0, hf0, hyl0⟩ := HXX.out.get (i := 0) (x := g0) rfl
              have C0 := Lib.hid (HI.out g0 (by simp) co ck hck0 hyl0)
              obtain ⟨yo, hyo⟩ : ∃ v, v = g0.op := ⟨_, rfl⟩
              obtain ⟨yn, hyn⟩ : ∃ v, v = g0.n := ⟨_, rfl⟩
              obtain ⟨ys, hys⟩ : ∃ v, v = g0.nm := ⟨_, rfl⟩
              obtain ⟨cm, hcm⟩ : ∃ v, v = g0.args.length := ⟨_, rfl⟩
              rw [show exV g0 co ck = .agg #[.int .i64 yo, .int .i64 yn, .string ys, .slice co cm ck] from by rw [hyo, hyn, hys, hcm]] at C0
              rw [← hyo, ← hyn, ← hys, ← hcm] at hf0
              obtain ⟨v0, hv0⟩ : ∃ v, v = g0.ev (fun s => seenF day s F) day := ⟨_, rfl⟩
              rw [← hv0] at C0
              obtain ⟨a', co1, ck1, ha', hsa1, hck1, hf1, hyl1⟩ := HXX.out.get (i := 1) (x := g1) rfl
              cases ha'
              have C1 := Lib.hid (HI.out g1 (by simp) co1 ck1 hck1 hyl1)
              obtain ⟨zo, hzo⟩ : ∃ v, v = g1.op := ⟨_, rfl⟩
              obtain ⟨zn, hzn⟩ : ∃ v, v = g1.n := ⟨_, rfl⟩
              obtain ⟨zs, hzs⟩ : ∃ v, v = g1.nm := ⟨_, rfl⟩
              obtain ⟨dm, hdm⟩ : ∃ v, v = g1.args.length := ⟨_, rfl⟩
              rw [show exV g1 co1 ck1 = .agg #[.int .i64 zo, .int .i64 zn, .string zs, .slice co1 dm ck1] from by rw [hzo, hzn, hzs, hdm]] at C1
              rw [← hzo, ← hzn, ← hzs, ← hdm] at hf1
              obtain ⟨v1, hv1⟩ : ∃ v, v = g1.ev (fun s => seenF day s F) day := ⟨_, rfl⟩
              rw [← hv1] at C1
              rw [Nat.zero_mul, addr_zero] at hf0
              rw [show a.add (1 * 4) = ⟨a.block, a.off + 4, none⟩ from rfl] at hf1
              have hab : a.block < w.heap.size := HSB.out _ hsa0
              have HRV : Hid (RES = evN (fun s => seenF day s F) day 18 xn xs [v0, v1] ∧ wokN P 18 [v0, v1]) := Lib.hid (by
                have h1 := HEV.out
                have h2 := HWK.out
                simp only [List.map] at h1 h2
                rw [← hv0, ← hv1] at h1 h2
                exact ⟨h1, h2⟩)
              have hkm : 2 ≤ k := HKM.out
              clear hv0 hck0 hyl0 hsa0 hyo hyn hys hcm hv1 hck1 hyl1 hsa1 hzo hzn hzs hdm
              have CJ : Hid (∀ W, Below w.heap.size w W → Calls Try.prog 75 #[.agg #[.int .i64 18, .int .i64 xn, .string xs, .slice (some a) 2 k], .agg #[.int .i64 day, .slice fa fm fc], .bool true] W fun e w' => e = .returned (vlV (jnV true v0 v1)) ∧ Below W.heap.size W w') := Lib.hid fun W hW => joined_any true v0 v1 W (Nat.lt_of_lt_of_le hab hW.size) hkm (hf0.stay (hW.block _ hab)) (hf1.stay (hW.block _ hab)) (fun V hV => C0.out V (below_mono hW hV (Nat.le_refl _))) (fun V hV => C1.out V (below_mono hW hV (Nat.le_refl _)))
              obtain ⟨J, hJ⟩ : ∃ J, J = jnV true v0 v1 := ⟨_, rfl⟩
              rw [← hJ] at CJ
              have HR : Hid (RES = J) := Lib.hid (HRV.out.1.trans hJ.symm)
              obtain ⟨jr, jn, jt⟩ := J
              have CJ2 : Hid (∀ W, Below w.heap.size w W → Calls Try.prog 75 #[.agg #[.int .i64 18, .int .i64 xn, .string xs, .slice (some a) 2 k], .agg #[.int .i64 day, .slice fa fm fc], .bool true] W fun e w' => e = .returned (.agg #[.int .i64 jr, .int .i64 jn, .bool jt]) ∧ Below W.heap.size W w') := CJ
              clear hJ CJ hab hf0 hf1 C0 C1
              go_enter Try.func66, Try.ntmps66
              go_upto_region 1 with fail
              obtain ⟨W, hW⟩ : ∃ X, ((w.alloc (.cells #[.int .i64 18, .int .i64 xn, .string xs, .slice (some a) 2 k] 53)).alloc (.cells #[.int .i64 day, .slice fa fm fc] 44)).alloc (.cells #[.int .i64 0, .int .i64 0, .bool false] 99) = X := ⟨_, rfl⟩
              obtain ⟨g1, b1, b2, b3⟩ := GA.out W hW
              obtain ⟨z, hz⟩ : ∃ z, z = w.heap.size := ⟨_, rfl⟩
              rw [hW, ← hz]
              rw [← hz] at b1 b2 b3
              have HE : Hid (EvB z #[.int .i64 18, .int .i64 xn, .string xs, .slice (some a) 2 k] #[.int .i64 day, .slice fa fm fc] w W) := Lib.hid ⟨g1, b1, b2, b3, by omega⟩
              clear hW b1 b2 b3 g1 GA hz
              obtain ⟨c0, c1, c2, c3⟩ := quad HE.out.ex
              obtain ⟨e0, e1⟩ := duo HE.out.en
              go_wp2_with (go_at_call 75; (with_reducible refine (CJ2.out _ HE.out.bel).mono ?_); rintro e w4 ⟨rfl, hb⟩; have HB4 := Lib.hid hb; have HX4 := Lib.hid ((hb.block _ (lt_of_heap HE.out.va)).trans HE.out.va); obtain ⟨n0', n1', n2'⟩ := trio HX4.out; have p0 : w4.frozen? ⟨z + 1 + 1, 0, none⟩ = false := free_blk HX4.out 0; have p1 : w4.frozen? ⟨z + 1 + 1, 1, none⟩ = false := free_blk HX4.out 1; have p2 : w4.frozen? ⟨z + 1 + 1, 2, none⟩ = false := free_blk HX4.out 2; clear hb)
              obtain ⟨W10, hW10⟩ : ∃ X, (((w4.setCell ⟨z + 1 + 1, 0, none⟩ (.int .i64 jr)).setCell ⟨z + 1 + 1, 1, none⟩ (.int .i64 jn)).setCell ⟨z + 1 + 1, 2, none⟩ (.bool jt)) = X := ⟨_, rfl⟩
              obtain ⟨k9, _, _, x9⟩ := three_set w4 (z + 1 + 1) (.int .i64 jr) (.int .i64 jn) (.bool jt) _ _ ⟨_, _, _, rfl⟩ HX4.out W10 hW10
              rw [hW10]
              clear n0' n1' n2' p0 p1 p2
              obtain ⟨d0, d1, d2⟩ := trio x9
              exact bodyPost_ret (v := .agg #[.int .i64 jr, .int .i64 jn, .bool jt]) (by simp [results, Try.results66, go_sem, d0, d1, d2]) rfl ⟨by rw [HR.out], ((HE.out.bel).trans (HB4.out.mono HE.out.bel.size)).trans (k9.mono (by have := HE.out.le; omega))⟩
            · have e18 : (xo == 18) = false := by simp [q18]
              by_cases q21 : xo = 21
              · subst q21
                have hm3 : m = 3 := by
                  have h1 : kidX 21 = 3 := by decide
                  omega
                subst hm3
                clear hlen
                obtain ⟨g0, g1, g2, hu⟩ : ∃ g0 g1 g2, l = [g0, g1, g2] := by
                  have h3 := HM.out
                  match l, h3 with
                  | [a0, a1, a2], _ => exact ⟨a0, a1, a2, rfl⟩
                subst hu
                obtain ⟨a, co, ck, rfl, hsa0, hck0, hf0, hyl0⟩ := HXX.out.get (i := 0) (x := g0) rfl
                have C0 := Lib.hid (HI.out g0 (by simp) co ck hck0 hyl0)
                obtain ⟨yo, hyo⟩ : ∃ v, v = g0.op := ⟨_, rfl⟩
                obtain ⟨yn, hyn⟩ : ∃ v, v = g0.n := ⟨_, rfl⟩
                obtain ⟨ys, hys⟩ : ∃ v, v = g0.nm := ⟨_, rfl⟩
                obtain ⟨cm, hcm⟩ : ∃ v, v = g0.args.length := ⟨_, rfl⟩
                rw [show exV g0 co ck = .agg #[.int .i64 yo, .int .i64 yn, .string ys, .slice co cm ck] from by rw [hyo, hyn, hys, hcm]] at C0
                rw [← hyo, ← hyn, ← hys, ← hcm] at hf0
                obtain ⟨v0, hv0⟩ : ∃ v, v = g0.ev (fun s => seenF day s F) day := ⟨_, rfl⟩
                rw [← hv0] at C0
                obtain ⟨a', co1, ck1, ha', hsa1, hck1, hf1, hyl1⟩ := HXX.out.get (i := 1) (x := g1) rfl
                cases ha'
                have C1 := Lib.hid (HI.out g1 (by simp) co1 ck1 hck1 hyl1)
                obtain ⟨zo, hzo⟩ : ∃ v, v = g1.op := ⟨_, rfl⟩
                obtain ⟨zn, hzn⟩ : ∃ v, v = g1.n := ⟨_, rfl⟩
                obtain ⟨zs, hzs⟩ : ∃ v, v = g1.nm := ⟨_, rfl⟩
                obtain ⟨dm, hdm⟩ : ∃ v, v = g1.args.length := ⟨_, rfl⟩
                rw [show exV g1 co1 ck1 = .agg #[.int .i64 zo, .int .i64 zn, .string zs, .slice co1 dm ck1] from by rw [hzo, hzn, hzs, hdm]] at C1
                rw [← hzo, ← hzn, ← hzs, ← hdm] at hf1
                obtain ⟨v1, hv1⟩ : ∃ v, v = g1.ev (fun s => seenF day s F) day := ⟨_, rfl⟩
                rw [← hv1] at C1
                obtain ⟨a', co2, ck2, ha', hsa2, hck2, hf2, hyl2⟩ := HXX.out.get (i := 2) (x := g2) rfl
                cases ha'
                have C2 := Lib.hid (HI.out g2 (by simp) co2 ck2 hck2 hyl2)
                obtain ⟨uo, huo⟩ : ∃ v, v = g2.op := ⟨_, rfl⟩
                obtain ⟨un, hun⟩ : ∃ v, v = g2.n := ⟨_, rfl⟩
                obtain ⟨us, hus⟩ : ∃ v, v = g2.nm := ⟨_, rfl⟩
                obtain ⟨um, hum⟩ : ∃ v, v = g2.args.length := ⟨_, rfl⟩
                rw [show exV g2 co2 ck2 = .agg #[.int .i64 uo, .int .i64 un, .string us, .slice co2 um ck2] from by rw [huo, hun, hus, hum]] at C2
                rw [← huo, ← hun, ← hus, ← hum] at hf2
                obtain ⟨v2, hv2⟩ : ∃ v, v = g2.ev (fun s => seenF day s F) day := ⟨_, rfl⟩
                rw [← hv2] at C2
                rw [Nat.zero_mul, addr_zero] at hf0
                rw [show a.add (1 * 4) = ⟨a.block, a.off + 4, none⟩ from rfl] at hf1
                rw [show a.add (2 * 4) = ⟨a.block, a.off + 8, none⟩ from rfl] at hf2
                have hab : a.block < w.heap.size := HSB.out _ hsa0
                have HRV : Hid (RES = evN (fun s => seenF day s F) day 21 xn xs [v0, v1, v2] ∧ wokN P 21 [v0, v1, v2]) := Lib.hid (by
                  have h1 := HEV.out
                  have h2 := HWK.out
                  simp only [List.map] at h1 h2
                  rw [← hv0, ← hv1, ← hv2] at h1 h2
                  exact ⟨h1, h2⟩)
                have hkm : 3 ≤ k := HKM.out
                clear hv0 hck0 hyl0 hsa0 hyo hyn hys hcm hv1 hck1 hyl1 hsa1 hzo hzn hzs hdm hv2 hck2 hyl2 hsa2 huo hun hus hum
                have CJ : Hid (∀ W, Below w.heap.size w W → Calls Try.prog 76 #[.agg #[.int .i64 21, .int .i64 xn, .string xs, .slice (some a) 3 k], .agg #[.int .i64 day, .slice fa fm fc]] W fun e w' => e = .returned (vlV (chV v0 v1 v2)) ∧ Below W.heap.size W w') := Lib.hid fun W hW => chosen_any v0 v1 v2 W (Nat.lt_of_lt_of_le hab hW.size) (hf0.stay (hW.block _ hab)) (hf1.stay (hW.block _ hab)) (hf2.stay (hW.block _ hab)) (fun V hV => C0.out V (below_mono hW hV (Nat.le_refl _))) (fun V hV => C1.out V (below_mono hW hV (Nat.le_refl _))) (fun V hV => C2.out V (below_mono hW hV (Nat.le_refl _)))
                obtain ⟨J, hJ⟩ : ∃ J, J = chV v0 v1 v2 := ⟨_, rfl⟩
                rw [← hJ] at CJ
                have HR : Hid (RES = J) := Lib.hid (HRV.out.1.trans hJ.symm)
                obtain ⟨jr, jn, jt⟩ := J
                have CJ2 : Hid (∀ W, Below w.heap.size w W → Calls Try.prog 76 #[.agg #[.int .i64 21, .int .i64 xn, .string xs, .slice (some a) 3 k], .agg #[.int .i64 day, .slice fa fm fc]] W fun e w' => e = .returned (.agg #[.int .i64 jr, .int .i64 jn, .bool jt]) ∧ Below W.heap.size W w') := CJ
                clear hJ CJ hab hf0 hf1 hf2 C0 C1 C2
                go_enter Try.func66, Try.ntmps66
                go_upto_region 1 with fail
                obtain ⟨W, hW⟩ : ∃ X, ((w.alloc (.cells #[.int .i64 21, .int .i64 xn, .string xs, .slice (some a) 3 k] 53)).alloc (.cells #[.int .i64 day, .slice fa fm fc] 44)).alloc (.cells #[.int .i64 0, .int .i64 0, .bool false] 99) = X := ⟨_, rfl⟩
                obtain ⟨g1, b1, b2, b3⟩ := GA.out W hW
                obtain ⟨z, hz⟩ : ∃ z, z = w.heap.size := ⟨_, rfl⟩
                rw [hW, ← hz]
                rw [← hz] at b1 b2 b3
                have HE : Hid (EvB z #[.int .i64 21, .int .i64 xn, .string xs, .slice (some a) 3 k] #[.int .i64 day, .slice fa fm fc] w W) := Lib.hid ⟨g1, b1, b2, b3, by omega⟩
                clear hW b1 b2 b3 g1 GA hz
                obtain ⟨c0, c1, c2, c3⟩ := quad HE.out.ex
                obtain ⟨e0, e1⟩ := duo HE.out.en
                go_wp2_with (go_at_call 76; (with_reducible refine (CJ2.out _ HE.out.bel).mono ?_); rintro e w4 ⟨rfl, hb⟩; have HB4 := Lib.hid hb; have HX4 := Lib.hid ((hb.block _ (lt_of_heap HE.out.va)).trans HE.out.va); obtain ⟨n0', n1', n2'⟩ := trio HX4.out; have p0 : w4.frozen? ⟨z + 1 + 1, 0, none⟩ = false := free_blk HX4.out 0; have p1 : w4.frozen? ⟨z + 1 + 1, 1, none⟩ = false := free_blk HX4.out 1; have p2 : w4.frozen? ⟨z + 1 + 1, 2, none⟩ = false := free_blk HX4.out 2; clear hb)
                obtain ⟨W10, hW10⟩ : ∃ X, (((w4.setCell ⟨z + 1 + 1, 0, none⟩ (.int .i64 jr)).setCell ⟨z + 1 + 1, 1, none⟩ (.int .i64 jn)).setCell ⟨z + 1 + 1, 2, none⟩ (.bool jt)) = X := ⟨_, rfl⟩
                obtain ⟨k9, _, _, x9⟩ := three_set w4 (z + 1 + 1) (.int .i64 jr) (.int .i64 jn) (.bool jt) _ _ ⟨_, _, _, rfl⟩ HX4.out W10 hW10
                rw [hW10]
                clear n0' n1' n2' p0 p1 p2
                obtain ⟨d0, d1, d2⟩ := trio x9
                exact bodyPost_ret (v := .agg #[.int .i64 jr, .int .i64 jn, .bool jt]) (by simp [results, Try.results66, go_sem, d0, d1, d2]) rfl ⟨by rw [HR.out], ((HE.out.bel).trans (HB4.out.mono HE.out.bel.size)).trans (k9.mono (by have := HE.out.le; omega))⟩
              · have e21 : (xo == 21) = false := by simp [q21]
                by_cases qn : 19 ≤ xo
                · have q2 : xo = 19 ∨ xo = 20 := by omega
                  have hm3 : m = 1 := by
                    have h1 := hlen
                    unfold kidX at h1
                    (repeat' split at h1) <;> omega
                  subst hm3
                  clear hlen
                  obtain ⟨g0, hu⟩ : ∃ g0, l = [g0] := by
                    have h3 := HM.out
                    match l, h3 with
                    | [a0], _ => exact ⟨a0, rfl⟩
                  subst hu
                  obtain ⟨a, co, ck, rfl, hsa0, hck0, hf0, hyl0⟩ := HXX.out.get (i := 0) (x := g0) rfl
                  have C0 := Lib.hid (HI.out g0 (by simp) co ck hck0 hyl0)
                  obtain ⟨yo, hyo⟩ : ∃ v, v = g0.op := ⟨_, rfl⟩
                  obtain ⟨yn, hyn⟩ : ∃ v, v = g0.n := ⟨_, rfl⟩
                  obtain ⟨ys, hys⟩ : ∃ v, v = g0.nm := ⟨_, rfl⟩
                  obtain ⟨cm, hcm⟩ : ∃ v, v = g0.args.length := ⟨_, rfl⟩
                  rw [show exV g0 co ck = .agg #[.int .i64 yo, .int .i64 yn, .string ys, .slice co cm ck] from by rw [hyo, hyn, hys, hcm]] at C0
                  rw [← hyo, ← hyn, ← hys, ← hcm] at hf0
                  obtain ⟨v0, hv0⟩ : ∃ v, v = g0.ev (fun s => seenF day s F) day := ⟨_, rfl⟩
                  rw [← hv0] at C0
                  rw [Nat.zero_mul, addr_zero] at hf0
                  have hab : a.block < w.heap.size := HSB.out _ hsa0
                  have HRV : Hid (RES = evN (fun s => seenF day s F) day xo xn xs [v0] ∧ wokN P xo [v0]) := Lib.hid (by
                    have h1 := HEV.out
                    have h2 := HWK.out
                    simp only [List.map] at h1 h2
                    rw [← hv0] at h1 h2
                    exact ⟨h1, h2⟩)
                  have hkm : 1 ≤ k := HKM.out
                  clear hv0 hck0 hyl0 hsa0 hyo hyn hys hcm
                  obtain ⟨r0, hr0⟩ : ∃ r, r = v0.kind := ⟨_, rfl⟩
                  obtain ⟨n0, hn0⟩ : ∃ r, r = v0.n := ⟨_, rfl⟩
                  obtain ⟨t0, ht0⟩ : ∃ r, r = v0.b := ⟨_, rfl⟩
                  have HV0 : Hid (v0 = ⟨r0, n0, t0⟩) := Lib.hid (by rw [hr0, hn0, ht0])
                  rw [show vlV v0 = .agg #[.int .i64 r0, .int .i64 n0, .bool t0] from by rw [hr0, hn0, ht0]] at C0
                  clear hr0 hn0 ht0
                  have HC0 : Hid (∀ V, Below w.heap.size w V → FourX V a (.int .i64 yo) (.int .i64 yn) (.string ys) (.slice co cm ck)) := Lib.hid fun V hV => hf0.stay (hV.block _ hab)
                  have HAB := Lib.hid hab
                  clear hab hf0 
                  go_enter Try.func66, Try.ntmps66
                  go_upto_region 1 with fail
                  obtain ⟨W, hW⟩ : ∃ X, ((w.alloc (.cells #[.int .i64 xo, .int .i64 xn, .string xs, .slice (some a) 1 k] 53)).alloc (.cells #[.int .i64 day, .slice fa fm fc] 44)).alloc (.cells #[.int .i64 0, .int .i64 0, .bool false] 99) = X := ⟨_, rfl⟩
                  obtain ⟨g1, b1, b2, b3⟩ := GA.out W hW
                  obtain ⟨z, hz⟩ : ∃ z, z = w.heap.size := ⟨_, rfl⟩
                  rw [hW, ← hz]
                  rw [← hz] at b1 b2 b3
                  have HE : Hid (EvB z #[.int .i64 xo, .int .i64 xn, .string xs, .slice (some a) 1 k] #[.int .i64 day, .slice fa fm fc] w W) := Lib.hid ⟨g1, b1, b2, b3, by omega⟩
                  clear hW b1 b2 b3 g1 GA hz
                  obtain ⟨c0, c1, c2, c3⟩ := quad HE.out.ex
                  go_upto_region 18 with fail
                  clear c0 c1 c2 c3
                  have c3 : W.cell? ⟨z, 3, none⟩ = some (.slice (some a) 1 k) := cell_blk HE.out.ex 3
                  obtain ⟨e0, e1⟩ := duo HE.out.en
                  obtain ⟨y0, y1, y2, y3⟩ := HC0.out W HE.out.bel
                  go_cut [7] (fun p wx => ∃ u : Nat, p = .pointer (some ⟨u, 0, none⟩) ∧ Hid (Below W.heap.size W wx ∧ W.heap.size ≤ u ∧ wx.heap[u]? = some (.cells #[.int .i64 r0, .int .i64 n0, .bool t0] 99 (0, 0))))
                  case first =>
                    have HBA : Hid (Below W.heap.size W (W.alloc (.cells #[.int .i64 0, .int .i64 0, .bool false] 99)).drew ∧ (W.alloc (.cells #[.int .i64 0, .int .i64 0, .bool false] 99)).drew.heap[W.heap.size]? = some (.cells #[.int .i64 0, .int .i64 0, .bool false] 99 (0, 0))) := Lib.hid ⟨((Below.refl _ _).alloc (Nat.le_refl _) _).drew, heap_alloc_new _ _⟩
                    have HBD : Hid (Below W.heap.size W W.drew) := Lib.hid (Below.refl _ _).drew
                    have HSF : Hid (∀ V, Below W.heap.size W V → V.cell? ⟨z, 3, none⟩ = some (.slice (some a) 1 k) ∧ V.cell? ⟨z + 1, 0, none⟩ = some (.int .i64 day) ∧ V.cell? ⟨z + 1, 1, none⟩ = some (.slice fa fm fc) ∧ V.cell? a = some (.int .i64 yo) ∧ V.cell? ⟨a.block, a.off + 1, none⟩ = some (.int .i64 yn) ∧ V.cell? ⟨a.block, a.off + 2, none⟩ = some (.string ys) ∧ V.cell? ⟨a.block, a.off + 3, none⟩ = some (.slice co cm ck)) := Lib.hid fun V hV => ⟨cell_blk (HE.out.next hV).ex 3, (duo (HE.out.next hV).en).1, (duo (HE.out.next hV).en).2, (HC0.out V (HE.out.next hV).bel).1, (HC0.out V (HE.out.next hV).bel).2.1, (HC0.out V (HE.out.next hV).bel).2.2.1, (HC0.out V (HE.out.next hV).bel).2.2.2⟩
                    go_region_held3 (fun w' => w'.cell? ⟨z, 3, none⟩ = some (.slice (some a) 1 k) ∧ w'.cell? ⟨z + 1, 0, none⟩ = some (.int .i64 day) ∧ w'.cell? ⟨z + 1, 1, none⟩ = some (.slice fa fm fc) ∧ w'.cell? a = some (.int .i64 yo) ∧ w'.cell? ⟨a.block, a.off + 1, none⟩ = some (.int .i64 yn) ∧ w'.cell? ⟨a.block, a.off + 2, none⟩ = some (.string ys) ∧ w'.cell? ⟨a.block, a.off + 3, none⟩ = some (.slice co cm ck))
                      (first | exact HSF.out _ HB4.out | exact HSF.out _ (below_mono HB4.out ((Below.refl _ _).alloc (Nat.le_refl _) _) (Nat.le_refl _)) | exact HSF.out _ (((HB4.out.setCell (p := ⟨W.heap.size, 0, none⟩) (Nat.le_refl _) _).setCell (p := ⟨W.heap.size, 1, none⟩) (Nat.le_refl _) _).setCell (p := ⟨W.heap.size, 2, none⟩) (Nat.le_refl _) _) | (go_keep; done))
                      (first
                        | (go_at_call 66; (with_reducible refine (C0.out _ (HE.out.next HBD.out).bel).mono ?_); rintro e w4 ⟨rfl, hb⟩; have HB4 := Lib.hid (HBD.out.trans hb); clear hb; obtain ⟨⟨n0', n1', n2'⟩, p0, p1, p2⟩ := three_zero w4 (.int .i64 0) (.int .i64 0) (.bool false) 99)
                        | (go_at_call 66; (with_reducible refine (C0.out _ (HE.out.next HBA.out.1).bel).mono ?_); rintro e w4 ⟨rfl, hb⟩; have HB4 := Lib.hid (HBA.out.1.trans (hb.mono (by simp))); have HX4 := Lib.hid ((hb.block _ (by simp)).trans HBA.out.2); obtain ⟨n0', n1', n2'⟩ := trio HX4.out; have p0 : w4.frozen? ⟨W.heap.size, 0, none⟩ = false := free_blk HX4.out 0; have p1 : w4.frozen? ⟨W.heap.size, 1, none⟩ = false := free_blk HX4.out 1; have p2 : w4.frozen? ⟨W.heap.size, 2, none⟩ = false := free_blk HX4.out 2; clear hb))
                    · go_wp2_with fail
                      go_meet
                      exact ⟨w4.heap.size, rfl, Lib.hid ⟨below_mono HB4.out ((Below.refl _ _).alloc (Nat.le_refl _) _) (Nat.le_refl _), HB4.out.size, heap_alloc_new _ _⟩⟩
                    · go_wp2_with fail
                      go_meet
                      obtain ⟨k9, _, _, x9⟩ := three_set w4 W.heap.size (.int .i64 r0) (.int .i64 n0) (.bool t0) _ _ ⟨_, _, _, rfl⟩ HX4.out _ rfl
                      exact ⟨W.heap.size, rfl, Lib.hid ⟨HB4.out.trans k9, Nat.le_refl _, x9⟩⟩
                  case rest =>
                    obtain ⟨u, rfl, HU⟩ := hcut
                    clear c3 e0 e1 y0 y1 y2 y3
                    have HE2 := Lib.hid (HE.out.next HU.out.1)
                    obtain ⟨k0, k1, k2⟩ := trio HU.out.2.2
                    have hzu : z + 1 + 1 < u := by have h1 := lt_of_heap HE.out.va; have h2 := HU.out.2.1; omega
                    obtain ⟨⟨n0', n1', n2'⟩, p0, p1, p2⟩ := three_zero wc (.int .i64 0) (.int .i64 0) (.bool false) 99
                    go_upto_region 20 with fail
                    clear k0 k1 k2 n0' n1' n2' p0 p1 p2
                    obtain ⟨W5, hW5⟩ : ∃ X, wc.alloc (.cells #[.int .i64 r0, .int .i64 n0, .bool t0] 99) = X := ⟨_, rfl⟩
                    obtain ⟨k5, b5, s5⟩ := three_made _ _ _ _ wc W5 hW5
                    obtain ⟨u8, hu8⟩ : ∃ u8, u8 = wc.heap.size := ⟨_, rfl⟩
                    rw [hW5, ← hu8]
                    rw [← hu8] at b5
                    have huu : u < u8 := by have := lt_of_heap HU.out.2.2; omega
                    have HE5 := Lib.hid (HE2.out.next k5)
                    have HXU := Lib.hid ((k5.block u (lt_of_heap HU.out.2.2)).trans HU.out.2.2)
                    have HXB := Lib.hid b5
                    obtain ⟨c0, c1, c2, c3⟩ := quad HE5.out.ex
                    clear hW5 k5 b5 s5 hu8
                    have HR0 : Hid (RES = plV xo ⟨r0, n0, t0⟩ ⟨r0, n0, t0⟩) := Lib.hid (by rw [HRV.out.1, HV0.out]; unfold evN; rw [if_neg (by omega), if_neg (by omega), if_neg (by omega)])
                    have HPW : Hid (xo = 20 → P xo n0 n0) := Lib.hid (by have h := HRV.out.2; rw [HV0.out] at h; exact h)
                    go_upto_region 22 with fail
                    clear c0 c1 c2 c3
                    have HXV := HXB
                    obtain ⟨k0, k1, k2⟩ := trio HXU.out
                    obtain ⟨l0, l1, l2⟩ := trio HXV.out
                    obtain ⟨c0, c1, c2, c3⟩ := quad HE5.out.ex
                    by_cases g0 : r0 = 3
                    · have f0 : (r0 == 3) = true := by simp [g0]
                      have HR : Hid (RES = brkV) := Lib.hid (by rw [HR0.out]; unfold plV; rw [if_pos (.inl g0)])
                      clear g0
                      go_upto_region 23 with fail
                      obtain ⟨q0', q1', q2'⟩ := trio HE5.out.va
                      have p0 : W5.frozen? ⟨z + 1 + 1, 0, none⟩ = false := free_blk HE5.out.va 0
                      have p1 : W5.frozen? ⟨z + 1 + 1, 1, none⟩ = false := free_blk HE5.out.va 1
                      have p2 : W5.frozen? ⟨z + 1 + 1, 2, none⟩ = false := free_blk HE5.out.va 2
                      go_wp2_with fail
                      have HS9 := Lib.hid (three_set W5 (z + 1 + 1) (.int .i64 3) (.int .i64 0) (.bool false) _ _ ⟨_, _, _, rfl⟩ HE5.out.va)
                      clear q0' q1' q2' p0 p1 p2
                      obtain ⟨W9, hW9⟩ : ∃ X, (((W5.setCell ⟨z + 1 + 1, 0, none⟩ (.int .i64 3)).setCell ⟨z + 1 + 1, 1, none⟩ (.int .i64 0)).setCell ⟨z + 1 + 1, 2, none⟩ (.bool false)) = X := ⟨_, rfl⟩
                      obtain ⟨k9, _, _, x9⟩ := HS9.out W9 hW9
                      rw [hW9]
                      obtain ⟨d0, d1, d2⟩ := trio x9
                      exact bodyPost_ret (v := .agg #[.int .i64 3, .int .i64 0, .bool false]) (by simp [results, Try.results66, go_sem, d0, d1, d2]) rfl ⟨by rw [HR.out]; rfl, HE5.out.bel.trans (k9.mono (by have := HE5.out.le; omega))⟩
                    · have f0 : (r0 == 3) = false := by simp [g0]
                      by_cases g2 : r0 = 0
                      · have f2 : (r0 == 0) = true := by simp [g2]
                        have HR : Hid (RES = unkV) := Lib.hid (by rw [HR0.out]; unfold plV; rw [if_neg (fun h => h.elim g0 g0), if_pos (.inl g2)])
                        clear g2
                        go_upto_region 25 with fail
                        obtain ⟨q0', q1', q2'⟩ := trio HE5.out.va
                        have p0 : W5.frozen? ⟨z + 1 + 1, 0, none⟩ = false := free_blk HE5.out.va 0
                        have p1 : W5.frozen? ⟨z + 1 + 1, 1, none⟩ = false := free_blk HE5.out.va 1
                        have p2 : W5.frozen? ⟨z + 1 + 1, 2, none⟩ = false := free_blk HE5.out.va 2
                        go_wp2_with fail
                        have HS9 := Lib.hid (three_set W5 (z + 1 + 1) (.int .i64 0) (.int .i64 0) (.bool false) _ _ ⟨_, _, _, rfl⟩ HE5.out.va)
                        clear q0' q1' q2' p0 p1 p2
                        obtain ⟨W9, hW9⟩ : ∃ X, (((W5.setCell ⟨z + 1 + 1, 0, none⟩ (.int .i64 0)).setCell ⟨z + 1 + 1, 1, none⟩ (.int .i64 0)).setCell ⟨z + 1 + 1, 2, none⟩ (.bool false)) = X := ⟨_, rfl⟩
                        obtain ⟨k9, _, _, x9⟩ := HS9.out W9 hW9
                        rw [hW9]
                        obtain ⟨d0, d1, d2⟩ := trio x9
                        exact bodyPost_ret (v := .agg #[.int .i64 0, .int .i64 0, .bool false]) (by simp [results, Try.results66, go_sem, d0, d1, d2]) rfl ⟨by rw [HR.out]; rfl, HE5.out.bel.trans (k9.mono (by have := HE5.out.le; omega))⟩
                      · have f2 : (r0 == 0) = false := by simp [g2]
                        by_cases q19 : xo = 19
                        · subst q19
                          have HR : Hid (RES = truV (!t0)) := Lib.hid (by rw [HR0.out]; unfold plV; rw [if_neg (fun h => h.elim g0 g0), if_neg (fun h => h.elim g2 g2)]; rw [if_pos rfl])
                          obtain ⟨nt, hnt⟩ : ∃ v, v = (!t0) := ⟨_, rfl⟩
                          have HNT := Lib.hid hnt
                          rw [← hnt] at HR
                          have CT2 := Lib.hid (CT.out nt)
                          rw [hnt] at CT2
                          clear hnt
                          go_wp2_with (go_at_call 77; (with_reducible refine (CT2.out _).mono ?_); rintro e w4 ⟨rfl, hb⟩; have HB4 := Lib.hid hb; have HX4 := Lib.hid ((hb.block _ (lt_of_heap HE5.out.va)).trans HE5.out.va); obtain ⟨n0', n1', n2'⟩ := trio HX4.out; have p0 : w4.frozen? ⟨z + 1 + 1, 0, none⟩ = false := free_blk HX4.out 0; have p1 : w4.frozen? ⟨z + 1 + 1, 1, none⟩ = false := free_blk HX4.out 1; have p2 : w4.frozen? ⟨z + 1 + 1, 2, none⟩ = false := free_blk HX4.out 2; clear hb)
                          obtain ⟨W10, hW10⟩ : ∃ X, (((w4.setCell ⟨z + 1 + 1, 0, none⟩ (.int .i64 2)).setCell ⟨z + 1 + 1, 1, none⟩ (.int .i64 0)).setCell ⟨z + 1 + 1, 2, none⟩ (.bool (!t0))) = X := ⟨_, rfl⟩
                          obtain ⟨k9, _, _, x9⟩ := three_set w4 (z + 1 + 1) (.int .i64 2) (.int .i64 0) (.bool (!t0)) _ _ ⟨_, _, _, rfl⟩ HX4.out W10 hW10
                          rw [hW10]
                          clear n0' n1' n2' p0 p1 p2
                          obtain ⟨d0, d1, d2⟩ := trio x9
                          exact bodyPost_ret (v := .agg #[.int .i64 2, .int .i64 0, .bool (!t0)]) (by simp [results, Try.results66, go_sem, d0, d1, d2]) rfl ⟨by rw [HR.out, HNT.out]; rfl, ((HE5.out.bel).trans (HB4.out.mono HE5.out.bel.size)).trans (k9.mono (by have := HE5.out.le; omega))⟩
                        · have e19 : (xo == 19) = false := by simp [q19]
                          have HR : Hid (RES = wkV xo n0 n0) := Lib.hid (by rw [HR0.out]; unfold plV; rw [if_neg (fun h => h.elim g0 g0), if_neg (fun h => h.elim g2 g2)]; rw [if_neg (by first | exact q19 | omega)])
                          obtain ⟨J, hJ⟩ : ∃ J, J = wkV xo n0 n0 := ⟨_, rfl⟩
                          have CW := Lib.hid (HW.out xo n0 n0 (by exact HPW.out (by omega)))
                          rw [← hJ] at CW HR
                          clear hJ
                          obtain ⟨jr, jn, jt⟩ := J
                          have CW2 : Hid (∀ V, Calls Try.prog 78 #[.int .i64 xo, .int .i64 n0, .int .i64 n0] V fun e w' => e = .returned (.agg #[.int .i64 jr, .int .i64 jn, .bool jt]) ∧ Below V.heap.size V w') := CW
                          go_wp2_with (go_at_call 78; (with_reducible refine (CW2.out _).mono ?_); rintro e w4 ⟨rfl, hb⟩; have HB4 := Lib.hid hb; have HX4 := Lib.hid ((hb.block _ (lt_of_heap HE5.out.va)).trans HE5.out.va); obtain ⟨n0', n1', n2'⟩ := trio HX4.out; have p0 : w4.frozen? ⟨z + 1 + 1, 0, none⟩ = false := free_blk HX4.out 0; have p1 : w4.frozen? ⟨z + 1 + 1, 1, none⟩ = false := free_blk HX4.out 1; have p2 : w4.frozen? ⟨z + 1 + 1, 2, none⟩ = false := free_blk HX4.out 2; clear hb)
                          obtain ⟨W10, hW10⟩ : ∃ X, (((w4.setCell ⟨z + 1 + 1, 0, none⟩ (.int .i64 jr)).setCell ⟨z + 1 + 1, 1, none⟩ (.int .i64 jn)).setCell ⟨z + 1 + 1, 2, none⟩ (.bool jt)) = X := ⟨_, rfl⟩
                          obtain ⟨k9, _, _, x9⟩ := three_set w4 (z + 1 + 1) (.int .i64 jr) (.int .i64 jn) (.bool jt) _ _ ⟨_, _, _, rfl⟩ HX4.out W10 hW10
                          rw [hW10]
                          clear n0' n1' n2' p0 p1 p2
                          obtain ⟨d0, d1, d2⟩ := trio x9
                          exact bodyPost_ret (v := .agg #[.int .i64 jr, .int .i64 jn, .bool jt]) (by simp [results, Try.results66, go_sem, d0, d1, d2]) rfl ⟨by rw [HR.out], ((HE5.out.bel).trans (HB4.out.mono HE5.out.bel.size)).trans (k9.mono (by have := HE5.out.le; omega))⟩
                · have e19 : (xo == 19) = false := by simp; omega
                  have q19 : ¬ xo = 19 := by omega
                  have hm3 : m = 2 := by
                    have h1 := hlen
                    unfold kidX at h1
                    (repeat' split at h1) <;> omega
                  subst hm3
                  clear hlen
                  obtain ⟨g0, g1, hu⟩ : ∃ g0 g1, l = [g0, g1] := by
                    have h3 := HM.out
                    match l, h3 with
                    | [a0, a1], _ => exact ⟨a0, a1, rfl⟩
                  subst hu
                  obtain ⟨a, co, ck, rfl, hsa0, hck0, hf0, hyl0⟩ := HXX.out.get (i := 0) (x := g0) rfl
                  have C0 := Lib.hid (HI.out g0 (by simp) co ck hck0 hyl0)
                  obtain ⟨yo, hyo⟩ : ∃ v, v = g0.op := ⟨_, rfl⟩
                  obtain ⟨yn, hyn⟩ : ∃ v, v = g0.n := ⟨_, rfl⟩
                  obtain ⟨ys, hys⟩ : ∃ v, v = g0.nm := ⟨_, rfl⟩
                  obtain ⟨cm, hcm⟩ : ∃ v, v = g0.args.length := ⟨_, rfl⟩
                  rw [show exV g0 co ck = .agg #[.int .i64 yo, .int .i64 yn, .string ys, .slice co cm ck] from by rw [hyo, hyn, hys, hcm]] at C0
                  rw [← hyo, ← hyn, ← hys, ← hcm] at hf0
                  obtain ⟨v0, hv0⟩ : ∃ v, v = g0.ev (fun s => seenF day s F) day := ⟨_, rfl⟩
                  rw [← hv0] at C0
                  obtain ⟨a', co1, ck1, ha', hsa1, hck1, hf1, hyl1⟩ := HXX.out.get (i := 1) (x := g1) rfl
                  cases ha'
                  have C1 := Lib.hid (HI.out g1 (by simp) co1 ck1 hck1 hyl1)
                  obtain ⟨zo, hzo⟩ : ∃ v, v = g1.op := ⟨_, rfl⟩
                  obtain ⟨zn, hzn⟩ : ∃ v, v = g1.n := ⟨_, rfl⟩
                  obtain ⟨zs, hzs⟩ : ∃ v, v = g1.nm := ⟨_, rfl⟩
                  obtain ⟨dm, hdm⟩ : ∃ v, v = g1.args.length := ⟨_, rfl⟩
                  rw [show exV g1 co1 ck1 = .agg #[.int .i64 zo, .int .i64 zn, .string zs, .slice co1 dm ck1] from by rw [hzo, hzn, hzs, hdm]] at C1
                  rw [← hzo, ← hzn, ← hzs, ← hdm] at hf1
                  obtain ⟨v1, hv1⟩ : ∃ v, v = g1.ev (fun s => seenF day s F) day := ⟨_, rfl⟩
                  rw [← hv1] at C1
                  rw [Nat.zero_mul, addr_zero] at hf0
                  rw [show a.add (1 * 4) = ⟨a.block, a.off + 4, none⟩ from rfl] at hf1
                  have hab : a.block < w.heap.size := HSB.out _ hsa0
                  have HRV : Hid (RES = evN (fun s => seenF day s F) day xo xn xs [v0, v1] ∧ wokN P xo [v0, v1]) := Lib.hid (by
                    have h1 := HEV.out
                    have h2 := HWK.out
                    simp only [List.map] at h1 h2
                    rw [← hv0, ← hv1] at h1 h2
                    exact ⟨h1, h2⟩)
                  have hkm : 2 ≤ k := HKM.out
                  clear hv0 hck0 hyl0 hsa0 hyo hyn hys hcm hv1 hck1 hyl1 hsa1 hzo hzn hzs hdm
                  obtain ⟨r0, hr0⟩ : ∃ r, r = v0.kind := ⟨_, rfl⟩
                  obtain ⟨n0, hn0⟩ : ∃ r, r = v0.n := ⟨_, rfl⟩
                  obtain ⟨t0, ht0⟩ : ∃ r, r = v0.b := ⟨_, rfl⟩
                  have HV0 : Hid (v0 = ⟨r0, n0, t0⟩) := Lib.hid (by rw [hr0, hn0, ht0])
                  rw [show vlV v0 = .agg #[.int .i64 r0, .int .i64 n0, .bool t0] from by rw [hr0, hn0, ht0]] at C0
                  clear hr0 hn0 ht0
                  obtain ⟨r1, hr1⟩ : ∃ r, r = v1.kind := ⟨_, rfl⟩
                  obtain ⟨n1, hn1⟩ : ∃ r, r = v1.n := ⟨_, rfl⟩
                  obtain ⟨t1, ht1⟩ : ∃ r, r = v1.b := ⟨_, rfl⟩
                  have HV1 : Hid (v1 = ⟨r1, n1, t1⟩) := Lib.hid (by rw [hr1, hn1, ht1])
                  rw [show vlV v1 = .agg #[.int .i64 r1, .int .i64 n1, .bool t1] from by rw [hr1, hn1, ht1]] at C1
                  clear hr1 hn1 ht1
                  have HC0 : Hid (∀ V, Below w.heap.size w V → FourX V a (.int .i64 yo) (.int .i64 yn) (.string ys) (.slice co cm ck)) := Lib.hid fun V hV => hf0.stay (hV.block _ hab)
                  have HC1 : Hid (∀ V, Below w.heap.size w V → FourX V ⟨a.block, a.off + 4, none⟩ (.int .i64 zo) (.int .i64 zn) (.string zs) (.slice co1 dm ck1)) := Lib.hid fun V hV => hf1.stay (hV.block _ hab)
                  have HAB := Lib.hid hab
                  clear hab hf0 hf1
                  go_enter Try.func66, Try.ntmps66
                  go_upto_region 1 with fail
                  obtain ⟨W, hW⟩ : ∃ X, ((w.alloc (.cells #[.int .i64 xo, .int .i64 xn, .string xs, .slice (some a) 2 k] 53)).alloc (.cells #[.int .i64 day, .slice fa fm fc] 44)).alloc (.cells #[.int .i64 0, .int .i64 0, .bool false] 99) = X := ⟨_, rfl⟩
                  obtain ⟨g1, b1, b2, b3⟩ := GA.out W hW
                  obtain ⟨z, hz⟩ : ∃ z, z = w.heap.size := ⟨_, rfl⟩
                  rw [hW, ← hz]
                  rw [← hz] at b1 b2 b3
                  have HE : Hid (EvB z #[.int .i64 xo, .int .i64 xn, .string xs, .slice (some a) 2 k] #[.int .i64 day, .slice fa fm fc] w W) := Lib.hid ⟨g1, b1, b2, b3, by omega⟩
                  clear hW b1 b2 b3 g1 GA hz
                  obtain ⟨c0, c1, c2, c3⟩ := quad HE.out.ex
                  go_upto_region 18 with fail
                  clear c0 c1 c2 c3
                  have c3 : W.cell? ⟨z, 3, none⟩ = some (.slice (some a) 2 k) := cell_blk HE.out.ex 3
                  obtain ⟨e0, e1⟩ := duo HE.out.en
                  obtain ⟨y0, y1, y2, y3⟩ := HC0.out W HE.out.bel
                  go_cut [7] (fun p wx => ∃ u : Nat, p = .pointer (some ⟨u, 0, none⟩) ∧ Hid (Below W.heap.size W wx ∧ W.heap.size ≤ u ∧ wx.heap[u]? = some (.cells #[.int .i64 r0, .int .i64 n0, .bool t0] 99 (0, 0))))
                  case first =>
                    have HBA : Hid (Below W.heap.size W (W.alloc (.cells #[.int .i64 0, .int .i64 0, .bool false] 99)).drew ∧ (W.alloc (.cells #[.int .i64 0, .int .i64 0, .bool false] 99)).drew.heap[W.heap.size]? = some (.cells #[.int .i64 0, .int .i64 0, .bool false] 99 (0, 0))) := Lib.hid ⟨((Below.refl _ _).alloc (Nat.le_refl _) _).drew, heap_alloc_new _ _⟩
                    have HBD : Hid (Below W.heap.size W W.drew) := Lib.hid (Below.refl _ _).drew
                    have HSF : Hid (∀ V, Below W.heap.size W V → V.cell? ⟨z, 3, none⟩ = some (.slice (some a) 2 k) ∧ V.cell? ⟨z + 1, 0, none⟩ = some (.int .i64 day) ∧ V.cell? ⟨z + 1, 1, none⟩ = some (.slice fa fm fc) ∧ V.cell? a = some (.int .i64 yo) ∧ V.cell? ⟨a.block, a.off + 1, none⟩ = some (.int .i64 yn) ∧ V.cell? ⟨a.block, a.off + 2, none⟩ = some (.string ys) ∧ V.cell? ⟨a.block, a.off + 3, none⟩ = some (.slice co cm ck)) := Lib.hid fun V hV => ⟨cell_blk (HE.out.next hV).ex 3, (duo (HE.out.next hV).en).1, (duo (HE.out.next hV).en).2, (HC0.out V (HE.out.next hV).bel).1, (HC0.out V (HE.out.next hV).bel).2.1, (HC0.out V (HE.out.next hV).bel).2.2.1, (HC0.out V (HE.out.next hV).bel).2.2.2⟩
                    go_region_held3 (fun w' => w'.cell? ⟨z, 3, none⟩ = some (.slice (some a) 2 k) ∧ w'.cell? ⟨z + 1, 0, none⟩ = some (.int .i64 day) ∧ w'.cell? ⟨z + 1, 1, none⟩ = some (.slice fa fm fc) ∧ w'.cell? a = some (.int .i64 yo) ∧ w'.cell? ⟨a.block, a.off + 1, none⟩ = some (.int .i64 yn) ∧ w'.cell? ⟨a.block, a.off + 2, none⟩ = some (.string ys) ∧ w'.cell? ⟨a.block, a.off + 3, none⟩ = some (.slice co cm ck))
                      (first | exact HSF.out _ HB4.out | exact HSF.out _ (below_mono HB4.out ((Below.refl _ _).alloc (Nat.le_refl _) _) (Nat.le_refl _)) | exact HSF.out _ (((HB4.out.setCell (p := ⟨W.heap.size, 0, none⟩) (Nat.le_refl _) _).setCell (p := ⟨W.heap.size, 1, none⟩) (Nat.le_refl _) _).setCell (p := ⟨W.heap.size, 2, none⟩) (Nat.le_refl _) _) | (go_keep; done))
                      (first
                        | (go_at_call 66; (with_reducible refine (C0.out _ (HE.out.next HBD.out).bel).mono ?_); rintro e w4 ⟨rfl, hb⟩; have HB4 := Lib.hid (HBD.out.trans hb); clear hb; obtain ⟨⟨n0', n1', n2'⟩, p0, p1, p2⟩ := three_zero w4 (.int .i64 0) (.int .i64 0) (.bool false) 99)
                        | (go_at_call 66; (with_reducible refine (C0.out _ (HE.out.next HBA.out.1).bel).mono ?_); rintro e w4 ⟨rfl, hb⟩; have HB4 := Lib.hid (HBA.out.1.trans (hb.mono (by simp))); have HX4 := Lib.hid ((hb.block _ (by simp)).trans HBA.out.2); obtain ⟨n0', n1', n2'⟩ := trio HX4.out; have p0 : w4.frozen? ⟨W.heap.size, 0, none⟩ = false := free_blk HX4.out 0; have p1 : w4.frozen? ⟨W.heap.size, 1, none⟩ = false := free_blk HX4.out 1; have p2 : w4.frozen? ⟨W.heap.size, 2, none⟩ = false := free_blk HX4.out 2; clear hb))
                    · go_wp2_with fail
                      go_meet
                      exact ⟨w4.heap.size, rfl, Lib.hid ⟨below_mono HB4.out ((Below.refl _ _).alloc (Nat.le_refl _) _) (Nat.le_refl _), HB4.out.size, heap_alloc_new _ _⟩⟩
                    · go_wp2_with fail
                      go_meet
                      obtain ⟨k9, _, _, x9⟩ := three_set w4 W.heap.size (.int .i64 r0) (.int .i64 n0) (.bool t0) _ _ ⟨_, _, _, rfl⟩ HX4.out _ rfl
                      exact ⟨W.heap.size, rfl, Lib.hid ⟨HB4.out.trans k9, Nat.le_refl _, x9⟩⟩
                  case rest =>
                    obtain ⟨u, rfl, HU⟩ := hcut
                    clear c3 e0 e1 y0 y1 y2 y3
                    have HE2 := Lib.hid (HE.out.next HU.out.1)
                    obtain ⟨k0, k1, k2⟩ := trio HU.out.2.2
                    have hzu : z + 1 + 1 < u := by have h1 := lt_of_heap HE.out.va; have h2 := HU.out.2.1; omega
                    obtain ⟨⟨n0', n1', n2'⟩, p0, p1, p2⟩ := three_zero wc (.int .i64 0) (.int .i64 0) (.bool false) 99
                    go_upto_region 20 with fail
                    clear k0 k1 k2 n0' n1' n2' p0 p1 p2
                    obtain ⟨W5, hW5⟩ : ∃ X, wc.alloc (.cells #[.int .i64 r0, .int .i64 n0, .bool t0] 99) = X := ⟨_, rfl⟩
                    obtain ⟨k5, b5, s5⟩ := three_made _ _ _ _ wc W5 hW5
                    obtain ⟨u8, hu8⟩ : ∃ u8, u8 = wc.heap.size := ⟨_, rfl⟩
                    rw [hW5, ← hu8]
                    rw [← hu8] at b5
                    have huu : u < u8 := by have := lt_of_heap HU.out.2.2; omega
                    have HE5 := Lib.hid (HE2.out.next k5)
                    have HXU := Lib.hid ((k5.block u (lt_of_heap HU.out.2.2)).trans HU.out.2.2)
                    have HXB := Lib.hid b5
                    obtain ⟨c0, c1, c2, c3⟩ := quad HE5.out.ex
                    clear hW5 k5 b5 s5 hu8
                    have HR0 : Hid (RES = plV xo ⟨r0, n0, t0⟩ ⟨r1, n1, t1⟩) := Lib.hid (by rw [HRV.out.1, HV0.out, HV1.out]; unfold evN; rw [if_neg (by omega), if_neg (by omega), if_neg (by omega)]; dsimp only; rw [if_neg (by omega), if_neg (by omega)])
                    have HPW : Hid (P xo n0 n1) := Lib.hid (by have h := HRV.out.2; rw [HV0.out, HV1.out] at h; exact h ⟨by omega, by omega⟩)
                    go_upto_region 21 with fail
                    clear c0 c1 c2 c3
                    have c3 : W5.cell? ⟨z, 3, none⟩ = some (.slice (some a) 2 k) := cell_blk HE5.out.ex 3
                    obtain ⟨e0, e1⟩ := duo HE5.out.en
                    obtain ⟨y0, y1, y2, y3⟩ := HC1.out W5 HE5.out.bel
                    have HNE : Hid (z ≠ u8 ∧ z + 1 ≠ u8 ∧ a.block ≠ u8) := Lib.hid ⟨by omega, by omega, by have h1 := HAB.out; have h2 := HE5.out.le; omega⟩
                    have HBD : Hid (Below W5.heap.size W5 W5.drew) := Lib.hid (Below.refl _ _).drew
                    have HSF : Hid (∀ V, Below W5.heap.size W5 V → V.cell? ⟨z, 3, none⟩ = some (.slice (some a) 2 k) ∧ V.cell? ⟨z + 1, 0, none⟩ = some (.int .i64 day) ∧ V.cell? ⟨z + 1, 1, none⟩ = some (.slice fa fm fc) ∧ V.cell? ⟨a.block, a.off + 4, none⟩ = some (.int .i64 zo) ∧ V.cell? ⟨a.block, a.off + 4 + 1, none⟩ = some (.int .i64 zn) ∧ V.cell? ⟨a.block, a.off + 4 + 2, none⟩ = some (.string zs) ∧ V.cell? ⟨a.block, a.off + 4 + 3, none⟩ = some (.slice co1 dm ck1)) := Lib.hid fun V hV => ⟨cell_blk (HE5.out.next hV).ex 3, (duo (HE5.out.next hV).en).1, (duo (HE5.out.next hV).en).2, (HC1.out V (HE5.out.next hV).bel).1, (HC1.out V (HE5.out.next hV).bel).2.1, (HC1.out V (HE5.out.next hV).bel).2.2.1, (HC1.out V (HE5.out.next hV).bel).2.2.2⟩
                    have HSB : Hid (∀ V, Below W5.heap.size W5 V → (((V.setCell ⟨u8, 0, none⟩ (.int .i64 r1)).setCell ⟨u8, 1, none⟩ (.int .i64 n1)).setCell ⟨u8, 2, none⟩ (.bool t1)).cell? ⟨z, 3, none⟩ = some (.slice (some a) 2 k) ∧ (((V.setCell ⟨u8, 0, none⟩ (.int .i64 r1)).setCell ⟨u8, 1, none⟩ (.int .i64 n1)).setCell ⟨u8, 2, none⟩ (.bool t1)).cell? ⟨z + 1, 0, none⟩ = some (.int .i64 day) ∧ (((V.setCell ⟨u8, 0, none⟩ (.int .i64 r1)).setCell ⟨u8, 1, none⟩ (.int .i64 n1)).setCell ⟨u8, 2, none⟩ (.bool t1)).cell? ⟨z + 1, 1, none⟩ = some (.slice fa fm fc) ∧ (((V.setCell ⟨u8, 0, none⟩ (.int .i64 r1)).setCell ⟨u8, 1, none⟩ (.int .i64 n1)).setCell ⟨u8, 2, none⟩ (.bool t1)).cell? ⟨a.block, a.off + 4, none⟩ = some (.int .i64 zo) ∧ (((V.setCell ⟨u8, 0, none⟩ (.int .i64 r1)).setCell ⟨u8, 1, none⟩ (.int .i64 n1)).setCell ⟨u8, 2, none⟩ (.bool t1)).cell? ⟨a.block, a.off + 4 + 1, none⟩ = some (.int .i64 zn) ∧ (((V.setCell ⟨u8, 0, none⟩ (.int .i64 r1)).setCell ⟨u8, 1, none⟩ (.int .i64 n1)).setCell ⟨u8, 2, none⟩ (.bool t1)).cell? ⟨a.block, a.off + 4 + 2, none⟩ = some (.string zs) ∧ (((V.setCell ⟨u8, 0, none⟩ (.int .i64 r1)).setCell ⟨u8, 1, none⟩ (.int .i64 n1)).setCell ⟨u8, 2, none⟩ (.bool t1)).cell? ⟨a.block, a.off + 4 + 3, none⟩ = some (.slice co1 dm ck1)) := Lib.hid fun V hV => ⟨(set3_cell V (u8) _ _ _ (p := ⟨z, 3, none⟩) HNE.out.1).trans (HSF.out V hV).1, (set3_cell V (u8) _ _ _ (p := ⟨z + 1, 0, none⟩) HNE.out.2.1).trans (HSF.out V hV).2.1, (set3_cell V (u8) _ _ _ (p := ⟨z + 1, 1, none⟩) HNE.out.2.1).trans (HSF.out V hV).2.2.1, (set3_cell V (u8) _ _ _ (p := ⟨a.block, a.off + 4, none⟩) HNE.out.2.2).trans (HSF.out V hV).2.2.2.1, (set3_cell V (u8) _ _ _ (p := ⟨a.block, a.off + 4 + 1, none⟩) HNE.out.2.2).trans (HSF.out V hV).2.2.2.2.1, (set3_cell V (u8) _ _ _ (p := ⟨a.block, a.off + 4 + 2, none⟩) HNE.out.2.2).trans (HSF.out V hV).2.2.2.2.2.1, (set3_cell V (u8) _ _ _ (p := ⟨a.block, a.off + 4 + 3, none⟩) HNE.out.2.2).trans (HSF.out V hV).2.2.2.2.2.2⟩
                    go_region_held3 (fun w' => w'.cell? ⟨z, 3, none⟩ = some (.slice (some a) 2 k) ∧ w'.cell? ⟨z + 1, 0, none⟩ = some (.int .i64 day) ∧ w'.cell? ⟨z + 1, 1, none⟩ = some (.slice fa fm fc) ∧ w'.cell? ⟨a.block, a.off + 4, none⟩ = some (.int .i64 zo) ∧ w'.cell? ⟨a.block, a.off + 4 + 1, none⟩ = some (.int .i64 zn) ∧ w'.cell? ⟨a.block, a.off + 4 + 2, none⟩ = some (.string zs) ∧ w'.cell? ⟨a.block, a.off + 4 + 3, none⟩ = some (.slice co1 dm ck1))
                      (first | exact HSF.out _ HB4.out | exact HSB.out w4 HB4.out | (go_keep; done))
                      ((go_at_call 66; (with_reducible refine (C1.out _ (HE5.out.next HBD.out).bel).mono ?_); rintro e w4 ⟨rfl, hb⟩; have HB4 := Lib.hid (HBD.out.trans hb); clear hb; have HX4 := Lib.hid ((HB4.out.block _ (lt_of_heap HXB.out)).trans HXB.out); obtain ⟨n0', n1', n2'⟩ := trio HX4.out; have p0 : w4.frozen? ⟨u8, 0, none⟩ = false := free_blk HX4.out 0; have p1 : w4.frozen? ⟨u8, 1, none⟩ = false := free_blk HX4.out 1; have p2 : w4.frozen? ⟨u8, 2, none⟩ = false := free_blk HX4.out 2))
                    go_upto_region 22 with fail
                    have HS6 := Lib.hid (three_set w4 u8 (.int .i64 r1) (.int .i64 n1) (.bool t1) _ _ ⟨_, _, _, rfl⟩ HX4.out)
                    clear n0' n1' n2' p0 p1 p2 c3 e0 e1 y0 y1 y2 y3
                    obtain ⟨W6, hW6⟩ : ∃ X, (((w4.setCell ⟨u8, 0, none⟩ (.int .i64 r1)).setCell ⟨u8, 1, none⟩ (.int .i64 n1)).setCell ⟨u8, 2, none⟩ (.bool t1)) = X := ⟨_, rfl⟩
                    obtain ⟨k6, f6, s6, x6⟩ := HS6.out W6 hW6
                    rw [hW6]
                    have HE6 := Lib.hid ((HE5.out.next HB4.out).set (u := u8) (by omega) f6 ((HE5.out.next HB4.out).bel.trans (k6.mono (by have := HE5.out.le; omega))))
                    have HXU6 := Lib.hid ((f6 u (by omega)).trans ((HB4.out.block u (lt_of_heap HXU.out)).trans HXU.out))
                    have HXV := Lib.hid x6
                    clear hW6 k6 f6 s6 x6 HS6 HXU
                    have HXU := HXU6
                    clear HXU6
                    obtain ⟨k0, k1, k2⟩ := trio HXU.out
                    obtain ⟨l0, l1, l2⟩ := trio HXV.out
                    obtain ⟨c0, c1, c2, c3⟩ := quad HE6.out.ex
                    by_cases g0 : r0 = 3
                    · have f0 : (r0 == 3) = true := by simp [g0]
                      have HR : Hid (RES = brkV) := Lib.hid (by rw [HR0.out]; unfold plV; rw [if_pos (.inl g0)])
                      clear g0
                      go_upto_region 23 with fail
                      obtain ⟨q0', q1', q2'⟩ := trio HE6.out.va
                      have p0 : W6.frozen? ⟨z + 1 + 1, 0, none⟩ = false := free_blk HE6.out.va 0
                      have p1 : W6.frozen? ⟨z + 1 + 1, 1, none⟩ = false := free_blk HE6.out.va 1
                      have p2 : W6.frozen? ⟨z + 1 + 1, 2, none⟩ = false := free_blk HE6.out.va 2
                      go_wp2_with fail
                      have HS9 := Lib.hid (three_set W6 (z + 1 + 1) (.int .i64 3) (.int .i64 0) (.bool false) _ _ ⟨_, _, _, rfl⟩ HE6.out.va)
                      clear q0' q1' q2' p0 p1 p2
                      obtain ⟨W9, hW9⟩ : ∃ X, (((W6.setCell ⟨z + 1 + 1, 0, none⟩ (.int .i64 3)).setCell ⟨z + 1 + 1, 1, none⟩ (.int .i64 0)).setCell ⟨z + 1 + 1, 2, none⟩ (.bool false)) = X := ⟨_, rfl⟩
                      obtain ⟨k9, _, _, x9⟩ := HS9.out W9 hW9
                      rw [hW9]
                      obtain ⟨d0, d1, d2⟩ := trio x9
                      exact bodyPost_ret (v := .agg #[.int .i64 3, .int .i64 0, .bool false]) (by simp [results, Try.results66, go_sem, d0, d1, d2]) rfl ⟨by rw [HR.out]; rfl, HE6.out.bel.trans (k9.mono (by have := HE6.out.le; omega))⟩
                    · have f0 : (r0 == 3) = false := by simp [g0]
                      by_cases g1 : r1 = 3
                      · have f1 : (r1 == 3) = true := by simp [g1]
                        have HR : Hid (RES = brkV) := Lib.hid (by rw [HR0.out]; unfold plV; rw [if_pos (.inr g1)])
                        clear g1
                        go_upto_region 23 with fail
                        obtain ⟨q0', q1', q2'⟩ := trio HE6.out.va
                        have p0 : W6.frozen? ⟨z + 1 + 1, 0, none⟩ = false := free_blk HE6.out.va 0
                        have p1 : W6.frozen? ⟨z + 1 + 1, 1, none⟩ = false := free_blk HE6.out.va 1
                        have p2 : W6.frozen? ⟨z + 1 + 1, 2, none⟩ = false := free_blk HE6.out.va 2
                        go_wp2_with fail
                        have HS9 := Lib.hid (three_set W6 (z + 1 + 1) (.int .i64 3) (.int .i64 0) (.bool false) _ _ ⟨_, _, _, rfl⟩ HE6.out.va)
                        clear q0' q1' q2' p0 p1 p2
                        obtain ⟨W9, hW9⟩ : ∃ X, (((W6.setCell ⟨z + 1 + 1, 0, none⟩ (.int .i64 3)).setCell ⟨z + 1 + 1, 1, none⟩ (.int .i64 0)).setCell ⟨z + 1 + 1, 2, none⟩ (.bool false)) = X := ⟨_, rfl⟩
                        obtain ⟨k9, _, _, x9⟩ := HS9.out W9 hW9
                        rw [hW9]
                        obtain ⟨d0, d1, d2⟩ := trio x9
                        exact bodyPost_ret (v := .agg #[.int .i64 3, .int .i64 0, .bool false]) (by simp [results, Try.results66, go_sem, d0, d1, d2]) rfl ⟨by rw [HR.out]; rfl, HE6.out.bel.trans (k9.mono (by have := HE6.out.le; omega))⟩
                      · have f1 : (r1 == 3) = false := by simp [g1]
                        by_cases g2 : r0 = 0
                        · have f2 : (r0 == 0) = true := by simp [g2]
                          have HR : Hid (RES = unkV) := Lib.hid (by rw [HR0.out]; unfold plV; rw [if_neg (fun h => h.elim g0 g1), if_pos (.inl g2)])
                          clear g2
                          go_upto_region 25 with fail
                          obtain ⟨q0', q1', q2'⟩ := trio HE6.out.va
                          have p0 : W6.frozen? ⟨z + 1 + 1, 0, none⟩ = false := free_blk HE6.out.va 0
                          have p1 : W6.frozen? ⟨z + 1 + 1, 1, none⟩ = false := free_blk HE6.out.va 1
                          have p2 : W6.frozen? ⟨z + 1 + 1, 2, none⟩ = false := free_blk HE6.out.va 2
                          go_wp2_with fail
                          have HS9 := Lib.hid (three_set W6 (z + 1 + 1) (.int .i64 0) (.int .i64 0) (.bool false) _ _ ⟨_, _, _, rfl⟩ HE6.out.va)
                          clear q0' q1' q2' p0 p1 p2
                          obtain ⟨W9, hW9⟩ : ∃ X, (((W6.setCell ⟨z + 1 + 1, 0, none⟩ (.int .i64 0)).setCell ⟨z + 1 + 1, 1, none⟩ (.int .i64 0)).setCell ⟨z + 1 + 1, 2, none⟩ (.bool false)) = X := ⟨_, rfl⟩
                          obtain ⟨k9, _, _, x9⟩ := HS9.out W9 hW9
                          rw [hW9]
                          obtain ⟨d0, d1, d2⟩ := trio x9
                          exact bodyPost_ret (v := .agg #[.int .i64 0, .int .i64 0, .bool false]) (by simp [results, Try.results66, go_sem, d0, d1, d2]) rfl ⟨by rw [HR.out]; rfl, HE6.out.bel.trans (k9.mono (by have := HE6.out.le; omega))⟩
                        · have f2 : (r0 == 0) = false := by simp [g2]
                          by_cases g3 : r1 = 0
                          · have f3 : (r1 == 0) = true := by simp [g3]
                            have HR : Hid (RES = unkV) := Lib.hid (by rw [HR0.out]; unfold plV; rw [if_neg (fun h => h.elim g0 g1), if_pos (.inr g3)])
                            clear g3
                            go_upto_region 25 with fail
                            obtain ⟨q0', q1', q2'⟩ := trio HE6.out.va
                            have p0 : W6.frozen? ⟨z + 1 + 1, 0, none⟩ = false := free_blk HE6.out.va 0
                            have p1 : W6.frozen? ⟨z + 1 + 1, 1, none⟩ = false := free_blk HE6.out.va 1
                            have p2 : W6.frozen? ⟨z + 1 + 1, 2, none⟩ = false := free_blk HE6.out.va 2
                            go_wp2_with fail
                            have HS9 := Lib.hid (three_set W6 (z + 1 + 1) (.int .i64 0) (.int .i64 0) (.bool false) _ _ ⟨_, _, _, rfl⟩ HE6.out.va)
                            clear q0' q1' q2' p0 p1 p2
                            obtain ⟨W9, hW9⟩ : ∃ X, (((W6.setCell ⟨z + 1 + 1, 0, none⟩ (.int .i64 0)).setCell ⟨z + 1 + 1, 1, none⟩ (.int .i64 0)).setCell ⟨z + 1 + 1, 2, none⟩ (.bool false)) = X := ⟨_, rfl⟩
                            obtain ⟨k9, _, _, x9⟩ := HS9.out W9 hW9
                            rw [hW9]
                            obtain ⟨d0, d1, d2⟩ := trio x9
                            exact bodyPost_ret (v := .agg #[.int .i64 0, .int .i64 0, .bool false]) (by simp [results, Try.results66, go_sem, d0, d1, d2]) rfl ⟨by rw [HR.out]; rfl, HE6.out.bel.trans (k9.mono (by have := HE6.out.le; omega))⟩
                          · have f3 : (r1 == 0) = false := by simp [g3]
                            have HR : Hid (RES = wkV xo n0 n1) := Lib.hid (by rw [HR0.out]; unfold plV; rw [if_neg (fun h => h.elim g0 g1), if_neg (fun h => h.elim g2 g3)]; rw [if_neg (by first | exact q19 | omega)])
                            obtain ⟨J, hJ⟩ : ∃ J, J = wkV xo n0 n1 := ⟨_, rfl⟩
                            have CW := Lib.hid (HW.out xo n0 n1 (by exact HPW.out))
                            rw [← hJ] at CW HR
                            clear hJ
                            obtain ⟨jr, jn, jt⟩ := J
                            have CW2 : Hid (∀ V, Calls Try.prog 78 #[.int .i64 xo, .int .i64 n0, .int .i64 n1] V fun e w' => e = .returned (.agg #[.int .i64 jr, .int .i64 jn, .bool jt]) ∧ Below V.heap.size V w') := CW
                            go_wp2_with (go_at_call 78; (with_reducible refine (CW2.out _).mono ?_); rintro e w4 ⟨rfl, hb⟩; have HB4 := Lib.hid hb; have HX4 := Lib.hid ((hb.block _ (lt_of_heap HE6.out.va)).trans HE6.out.va); obtain ⟨n0', n1', n2'⟩ := trio HX4.out; have p0 : w4.frozen? ⟨z + 1 + 1, 0, none⟩ = false := free_blk HX4.out 0; have p1 : w4.frozen? ⟨z + 1 + 1, 1, none⟩ = false := free_blk HX4.out 1; have p2 : w4.frozen? ⟨z + 1 + 1, 2, none⟩ = false := free_blk HX4.out 2; clear hb)
                            obtain ⟨W10, hW10⟩ : ∃ X, (((w4.setCell ⟨z + 1 + 1, 0, none⟩ (.int .i64 jr)).setCell ⟨z + 1 + 1, 1, none⟩ (.int .i64 jn)).setCell ⟨z + 1 + 1, 2, none⟩ (.bool jt)) = X := ⟨_, rfl⟩
                            obtain ⟨k9, _, _, x9⟩ := three_set w4 (z + 1 + 1) (.int .i64 jr) (.int .i64 jn) (.bool jt) _ _ ⟨_, _, _, rfl⟩ HX4.out W10 hW10
                            rw [hW10]
                            clear n0' n1' n2' p0 p1 p2
                            obtain ⟨d0, d1, d2⟩ := trio x9
                            exact bodyPost_ret (v := .agg #[.int .i64 jr, .int .i64 jn, .bool jt]) (by simp [results, Try.results66, go_sem, d0, d1, d2]) rfl ⟨by rw [HR.out], ((HE6.out.bel).trans (HB4.out.mono HE6.out.bel.size)).trans (k9.mono (by have := HE6.out.le; omega))⟩
end Go.Proofs.Ythhimllddgfddaa
namespace Go.Proofs.Ythhimllddgfddaa
open Go.RowKit Go.PlainAid Go.Sort
set_option linter.unusedVariables false
set_option linter.unusedSimpArgs false
def Xp.evl (sn : ByteArray → Option Fx) (day : Int) (x : Xp) : Vl := if x.has = true then x.ev sn day else brkV
set_option maxRecDepth 100000 in
set_option maxHeartbeats 8000000 in
theorem evalOf_any {S R : Nat → Prop} (x : Xp) (bo : Option Addr) (k : Nat) (w : World) (hS : ∀ b, S b → b < w.heap.size) (hR : ∀ b, R b → b < w.heap.size) {P : Int → Int → Int → Prop} (hW : ∀ o a b, P o a b → ∀ w, Calls Try.prog 78 #[.int .i64 o, .int .i64 a, .int .i64 b] w fun e w' => e = .returned (vlV (wkV o a b)) ∧ Below w.heap.size w w') {F : List Fx} {fa : Option Addr} {fc : Nat} {day : Int} (hl : F.length ≤ 200)
    (hk : x.args.length ≤ k) (hx : ExL S w x.args bo) (hf : x.fit) (ht : x.thin) (hde : x.dep ≤ 900) (hok : x.has = true → x.wok P (fun s => seenF day s F) day) (hfx : FxA R fa F w) :
    Calls Try.prog 57 #[exV x bo k, .agg #[.int .i64 day, .slice fa F.length fc]] w fun e w' => e = .returned (vlV (x.evl (fun s => seenF day s F) day)) ∧ Below w.heap.size w w' := by
  have CK : Hid (∀ W, Below w.heap.size w W → Calls Try.prog 24 #[exV x bo k] W fun e w' => e = .returned (.tuple #[.int .i64 (x.kd : Nat), .bool x.has]) ∧ Below W.heap.size W w') := Lib.hid fun W h => kindOf_any x bo k W (fun b hb => Nat.lt_of_lt_of_le (hS b hb) h.size) hk (hx.stay (fun _ h => h) fun b hb => h.block b (hS b hb)) hf ht hde
  have CE : Hid (x.has = true → ∀ W, Below w.heap.size w W → Calls Try.prog 66 #[exV x bo k, .agg #[.int .i64 day, .slice fa F.length fc]] W fun e w' => e = .returned (vlV (x.ev (fun s => seenF day s F) day)) ∧ Below W.heap.size W w') := Lib.hid fun hh W h => by
    have hb : x.blt = true := by
      unfold Xp.has Xp.kd at hh
      by_cases hr : x.rgt = true
      · exact xrgt_blt hr
      · rw [if_neg hr] at hh
        simp at hh
    exact eval_any (S := S) (R := R) (B := w.heap.size) hS hR hW hl x bo k W h.size hb (hok hh) hk (hx.stay (fun _ h => h) fun b hb => h.block b (hS b hb)) (hfx.stay (fun _ h => h) fun b hb => h.block b (hR b hb))
  have HEV : Hid (x.evl (fun s => seenF day s F) day = if x.has = true then x.ev (fun s => seenF day s F) day else brkV) := Lib.hid rfl
  obtain ⟨RES, hRES⟩ : ∃ v, v = x.evl (fun s => seenF day s F) day := ⟨_, rfl⟩
  obtain ⟨EV, hEV⟩ : ∃ v, v = x.ev (fun s => seenF day s F) day := ⟨_, rfl⟩
  obtain ⟨hs, hhs⟩ : ∃ v, v = x.has := ⟨_, rfl⟩
  obtain ⟨kd, hkd⟩ : ∃ v, v = x.kd := ⟨_, rfl⟩
  rw [← hRES, ← hEV, ← hhs] at HEV
  rw [← hRES]
  rw [← hEV, ← hhs] at CE
  rw [← hhs, ← hkd] at CK
  obtain ⟨fm, hfm⟩ : ∃ m, m = F.length := ⟨_, rfl⟩
  obtain ⟨m, hm⟩ : ∃ m, m = x.args.length := ⟨_, rfl⟩
  obtain ⟨xo, hxo⟩ : ∃ v, v = x.op := ⟨_, rfl⟩
  obtain ⟨xn, hxn⟩ : ∃ v, v = x.n := ⟨_, rfl⟩
  obtain ⟨xs, hxs⟩ : ∃ v, v = x.nm := ⟨_, rfl⟩
  have hxe : exV x bo k = .agg #[.int .i64 xo, .int .i64 xn, .string xs, .slice bo m k] := by rw [hm, hxo, hxn, hxs]
  rw [hxe, ← hfm] at CE ⊢
  rw [hxe] at CK
  have GA := Lib.hid (entry_made (.int .i64 xo) (.int .i64 xn) (.string xs) (.slice bo m k) (.int .i64 day) (.slice fa fm fc) w)
  clear hx hf ht hde hok hfx hk hl hW hS hR hRES hEV hhs hkd hfm hm hxo hxn hxs hxe
  go_enter Try.func57, Try.ntmps57
  go_upto_region 1 with fail
  obtain ⟨W, hW⟩ : ∃ X, ((w.alloc (.cells #[.int .i64 xo, .int .i64 xn, .string xs, .slice bo m k] 53)).alloc (.cells #[.int .i64 day, .slice fa fm fc] 44)).alloc (.cells #[.int .i64 0, .int .i64 0, .bool false] 99) = X := ⟨_, rfl⟩
  obtain ⟨g1, b1, b2, b3⟩ := GA.out W hW
  obtain ⟨z, hz⟩ : ∃ z, z = w.heap.size := ⟨_, rfl⟩
  rw [hW, ← hz]
  rw [← hz] at b1 b2 b3
  have HE : Hid (EvB z #[.int .i64 xo, .int .i64 xn, .string xs, .slice bo m k] #[.int .i64 day, .slice fa fm fc] w W) := Lib.hid ⟨g1, b1, b2, b3, by omega⟩
  clear hW b1 b2 b3 g1 GA hz
  obtain ⟨c0, c1, c2, c3⟩ := quad HE.out.ex
  obtain ⟨e0, e1⟩ := duo HE.out.en
  cases hs with
  | false =>
    have HR : Hid (RES = brkV) := Lib.hid (by rw [HEV.out]; rfl)
    go_upto_region 3 with (go_at_call 24; (with_reducible refine (CK.out _ HE.out.bel).mono ?_); rintro e w3 ⟨rfl, hb⟩; have HE3 := Lib.hid (HE.out.next hb); clear hb)
    obtain ⟨q0', q1', q2'⟩ := trio HE3.out.va
    have p0 : w3.frozen? ⟨z + 1 + 1, 0, none⟩ = false := free_blk HE3.out.va 0
    have p1 : w3.frozen? ⟨z + 1 + 1, 1, none⟩ = false := free_blk HE3.out.va 1
    have p2 : w3.frozen? ⟨z + 1 + 1, 2, none⟩ = false := free_blk HE3.out.va 2
    go_wp2_with fail
    have HS9 := Lib.hid (three_set w3 (z + 1 + 1) (.int .i64 3) (.int .i64 0) (.bool false) _ _ ⟨_, _, _, rfl⟩ HE3.out.va)
    clear q0' q1' q2' p0 p1 p2
    obtain ⟨W9, hW9⟩ : ∃ X, (((w3.setCell ⟨z + 1 + 1, 0, none⟩ (.int .i64 3)).setCell ⟨z + 1 + 1, 1, none⟩ (.int .i64 0)).setCell ⟨z + 1 + 1, 2, none⟩ (.bool false)) = X := ⟨_, rfl⟩
    obtain ⟨k9, _, _, x9⟩ := HS9.out W9 hW9
    rw [hW9]
    obtain ⟨d0, d1, d2⟩ := trio x9
    exact bodyPost_ret (v := .agg #[.int .i64 3, .int .i64 0, .bool false]) (by simp [results, Try.results57, go_sem, d0, d1, d2]) rfl ⟨by rw [HR.out]; rfl, HE3.out.bel.trans (k9.mono (by have := HE3.out.le; omega))⟩
  | true =>
    have CE2 := Lib.hid (CE.out rfl)
    clear CE
    obtain ⟨jr, jn, jt⟩ := EV
    have CE3 : Hid (∀ W, Below w.heap.size w W → Calls Try.prog 66 #[.agg #[.int .i64 xo, .int .i64 xn, .string xs, .slice bo m k], .agg #[.int .i64 day, .slice fa fm fc]] W fun e w' => e = .returned (.agg #[.int .i64 jr, .int .i64 jn, .bool jt]) ∧ Below W.heap.size W w') := CE2
    have HR : Hid (RES = ⟨jr, jn, jt⟩) := Lib.hid (by rw [HEV.out]; rfl)
    go_upto_region 4 with (go_at_call 24; (with_reducible refine (CK.out _ HE.out.bel).mono ?_); rintro e w3 ⟨rfl, hb⟩; have HE3 := Lib.hid (HE.out.next hb); clear hb)
    clear c0 c1 c2 c3 e0 e1
    obtain ⟨c0, c1, c2, c3⟩ := quad HE3.out.ex
    obtain ⟨e0, e1⟩ := duo HE3.out.en
    go_wp2_with (go_at_call 66; (with_reducible refine (CE3.out _ HE3.out.bel).mono ?_); rintro e w4 ⟨rfl, hb⟩; have HB4 := Lib.hid hb; have HX4 := Lib.hid ((hb.block _ (lt_of_heap HE3.out.va)).trans HE3.out.va); obtain ⟨n0', n1', n2'⟩ := trio HX4.out; have p0 : w4.frozen? ⟨z + 1 + 1, 0, none⟩ = false := free_blk HX4.out 0; have p1 : w4.frozen? ⟨z + 1 + 1, 1, none⟩ = false := free_blk HX4.out 1; have p2 : w4.frozen? ⟨z + 1 + 1, 2, none⟩ = false := free_blk HX4.out 2; clear hb)
    obtain ⟨W10, hW10⟩ : ∃ X, (((w4.setCell ⟨z + 1 + 1, 0, none⟩ (.int .i64 jr)).setCell ⟨z + 1 + 1, 1, none⟩ (.int .i64 jn)).setCell ⟨z + 1 + 1, 2, none⟩ (.bool jt)) = X := ⟨_, rfl⟩
    obtain ⟨k9, _, _, x9⟩ := three_set w4 (z + 1 + 1) (.int .i64 jr) (.int .i64 jn) (.bool jt) _ _ ⟨_, _, _, rfl⟩ HX4.out W10 hW10
    rw [hW10]
    clear n0' n1' n2' p0 p1 p2
    obtain ⟨d0, d1, d2⟩ := trio x9
    exact bodyPost_ret (v := .agg #[.int .i64 jr, .int .i64 jn, .bool jt]) (by simp [results, Try.results57, go_sem, d0, d1, d2]) rfl ⟨by rw [HR.out], ((HE3.out.bel).trans (HB4.out.mono HE3.out.bel.size)).trans (k9.mono (by have := HE3.out.le; omega))⟩
set_option maxRecDepth 100000 in
set_option maxHeartbeats 4000000 in
theorem worked_15 (a b : Int) (w : World) : Calls Try.prog 78 #[.int .i64 15, .int .i64 a, .int .i64 b] w fun e w' => e = .returned (vlV (wkV 15 a b)) ∧ Below w.heap.size w w' := by
  have CT : Hid (∀ (t : Bool) W, Calls Try.prog 77 #[.bool t] W fun e w' => e = .returned (.agg #[.int .i64 2, .int .i64 0, .bool t]) ∧ Below W.heap.size W w') := Lib.hid fun t W => truth_any t W
  have HF := Lib.hid (three_made (.int .i64 0) (.int .i64 0) (.bool false) 99 w)
  obtain ⟨t, ht⟩ : ∃ t, t = decide (b ≤ a) := ⟨_, rfl⟩
  have HT : Hid (wkV 15 a b = truV t) := Lib.hid (by rw [ht]; rfl)
  have hd : decide (b ≤ a) = t := ht.symm
  go_enter Try.func78, Try.ntmps78
  go_upto_region 1 with fail
  obtain ⟨W, hW⟩ : ∃ X, w.alloc (.cells #[.int .i64 0, .int .i64 0, .bool false] 99) = X := ⟨_, rfl⟩
  obtain ⟨k, b', s⟩ := HF.out W hW
  obtain ⟨z, hz⟩ : ∃ z, z = w.heap.size := ⟨_, rfl⟩
  rw [hW, ← hz]
  rw [← hz] at b'
  have HB := Lib.hid k
  have HX := Lib.hid b'
  have HZ := Lib.hid hz
  clear hW k b' s HF hz
  cases t with
  | true =>
    have h1 : b ≤ a := of_decide_eq_true hd
    clear hd ht
    go_wp2_with (go_at_call 77; (with_reducible refine (CT.out true _).mono ?_); rintro e w4 ⟨rfl, hb⟩; have HB4 := Lib.hid hb; have HX4 := Lib.hid ((hb.block _ (lt_of_heap HX.out)).trans HX.out); obtain ⟨n0', n1', n2'⟩ := trio HX4.out; have p0 : w4.frozen? ⟨z, 0, none⟩ = false := free_blk HX4.out 0; have p1 : w4.frozen? ⟨z, 1, none⟩ = false := free_blk HX4.out 1; have p2 : w4.frozen? ⟨z, 2, none⟩ = false := free_blk HX4.out 2; clear hb)
    obtain ⟨W10, hW10⟩ : ∃ X, (((w4.setCell ⟨z, 0, none⟩ (.int .i64 2)).setCell ⟨z, 1, none⟩ (.int .i64 0)).setCell ⟨z, 2, none⟩ (.bool true)) = X := ⟨_, rfl⟩
    obtain ⟨k9, _, _, x9⟩ := three_set w4 z (.int .i64 2) (.int .i64 0) (.bool true) _ _ ⟨_, _, _, rfl⟩ HX4.out W10 hW10
    rw [hW10]
    clear n0' n1' n2' p0 p1 p2
    obtain ⟨d0, d1, d2⟩ := trio x9
    exact bodyPost_ret (v := .agg #[.int .i64 2, .int .i64 0, .bool true]) (by simp [results, Try.results78, go_sem, d0, d1, d2]) rfl ⟨by rw [HT.out]; rfl, (HB.out.trans (HB4.out.mono HB.out.size)).trans (k9.mono (by have := HZ.out; omega))⟩
  | false =>
    have h1 : ¬ (b ≤ a) := of_decide_eq_false hd
    clear hd ht
    go_wp2_with (go_at_call 77; (with_reducible refine (CT.out false _).mono ?_); rintro e w4 ⟨rfl, hb⟩; have HB4 := Lib.hid hb; have HX4 := Lib.hid ((hb.block _ (lt_of_heap HX.out)).trans HX.out); obtain ⟨n0', n1', n2'⟩ := trio HX4.out; have p0 : w4.frozen? ⟨z, 0, none⟩ = false := free_blk HX4.out 0; have p1 : w4.frozen? ⟨z, 1, none⟩ = false := free_blk HX4.out 1; have p2 : w4.frozen? ⟨z, 2, none⟩ = false := free_blk HX4.out 2; clear hb)
    obtain ⟨W10, hW10⟩ : ∃ X, (((w4.setCell ⟨z, 0, none⟩ (.int .i64 2)).setCell ⟨z, 1, none⟩ (.int .i64 0)).setCell ⟨z, 2, none⟩ (.bool false)) = X := ⟨_, rfl⟩
    obtain ⟨k9, _, _, x9⟩ := three_set w4 z (.int .i64 2) (.int .i64 0) (.bool false) _ _ ⟨_, _, _, rfl⟩ HX4.out W10 hW10
    rw [hW10]
    clear n0' n1' n2' p0 p1 p2
    obtain ⟨d0, d1, d2⟩ := trio x9
    exact bodyPost_ret (v := .agg #[.int .i64 2, .int .i64 0, .bool false]) (by simp [results, Try.results78, go_sem, d0, d1, d2]) rfl ⟨by rw [HT.out]; rfl, (HB.out.trans (HB4.out.mono HB.out.size)).trans (k9.mono (by have := HZ.out; omega))⟩
set_option maxRecDepth 100000 in
set_option maxHeartbeats 4000000 in
theorem worked_16 (a b : Int) (w : World) : Calls Try.prog 78 #[.int .i64 16, .int .i64 a, .int .i64 b] w fun e w' => e = .returned (vlV (wkV 16 a b)) ∧ Below w.heap.size w w' := by
  have CT : Hid (∀ (t : Bool) W, Calls Try.prog 77 #[.bool t] W fun e w' => e = .returned (.agg #[.int .i64 2, .int .i64 0, .bool t]) ∧ Below W.heap.size W w') := Lib.hid fun t W => truth_any t W
  have HF := Lib.hid (three_made (.int .i64 0) (.int .i64 0) (.bool false) 99 w)
  obtain ⟨t, ht⟩ : ∃ t, t = decide (b < a) := ⟨_, rfl⟩
  have HT : Hid (wkV 16 a b = truV t) := Lib.hid (by rw [ht]; rfl)
  have hd : decide (b < a) = t := ht.symm
  go_enter Try.func78, Try.ntmps78
  go_upto_region 1 with fail
  obtain ⟨W, hW⟩ : ∃ X, w.alloc (.cells #[.int .i64 0, .int .i64 0, .bool false] 99) = X := ⟨_, rfl⟩
  obtain ⟨k, b', s⟩ := HF.out W hW
  obtain ⟨z, hz⟩ : ∃ z, z = w.heap.size := ⟨_, rfl⟩
  rw [hW, ← hz]
  rw [← hz] at b'
  have HB := Lib.hid k
  have HX := Lib.hid b'
  have HZ := Lib.hid hz
  clear hW k b' s HF hz
  cases t with
  | true =>
    have h1 : b < a := of_decide_eq_true hd
    clear hd ht
    go_wp2_with (go_at_call 77; (with_reducible refine (CT.out true _).mono ?_); rintro e w4 ⟨rfl, hb⟩; have HB4 := Lib.hid hb; have HX4 := Lib.hid ((hb.block _ (lt_of_heap HX.out)).trans HX.out); obtain ⟨n0', n1', n2'⟩ := trio HX4.out; have p0 : w4.frozen? ⟨z, 0, none⟩ = false := free_blk HX4.out 0; have p1 : w4.frozen? ⟨z, 1, none⟩ = false := free_blk HX4.out 1; have p2 : w4.frozen? ⟨z, 2, none⟩ = false := free_blk HX4.out 2; clear hb)
    obtain ⟨W10, hW10⟩ : ∃ X, (((w4.setCell ⟨z, 0, none⟩ (.int .i64 2)).setCell ⟨z, 1, none⟩ (.int .i64 0)).setCell ⟨z, 2, none⟩ (.bool true)) = X := ⟨_, rfl⟩
    obtain ⟨k9, _, _, x9⟩ := three_set w4 z (.int .i64 2) (.int .i64 0) (.bool true) _ _ ⟨_, _, _, rfl⟩ HX4.out W10 hW10
    rw [hW10]
    clear n0' n1' n2' p0 p1 p2
    obtain ⟨d0, d1, d2⟩ := trio x9
    exact bodyPost_ret (v := .agg #[.int .i64 2, .int .i64 0, .bool true]) (by simp [results, Try.results78, go_sem, d0, d1, d2]) rfl ⟨by rw [HT.out]; rfl, (HB.out.trans (HB4.out.mono HB.out.size)).trans (k9.mono (by have := HZ.out; omega))⟩
  | false =>
    have h1 : ¬ (b < a) := of_decide_eq_false hd
    clear hd ht
    go_wp2_with (go_at_call 77; (with_reducible refine (CT.out false _).mono ?_); rintro e w4 ⟨rfl, hb⟩; have HB4 := Lib.hid hb; have HX4 := Lib.hid ((hb.block _ (lt_of_heap HX.out)).trans HX.out); obtain ⟨n0', n1', n2'⟩ := trio HX4.out; have p0 : w4.frozen? ⟨z, 0, none⟩ = false := free_blk HX4.out 0; have p1 : w4.frozen? ⟨z, 1, none⟩ = false := free_blk HX4.out 1; have p2 : w4.frozen? ⟨z, 2, none⟩ = false := free_blk HX4.out 2; clear hb)
    obtain ⟨W10, hW10⟩ : ∃ X, (((w4.setCell ⟨z, 0, none⟩ (.int .i64 2)).setCell ⟨z, 1, none⟩ (.int .i64 0)).setCell ⟨z, 2, none⟩ (.bool false)) = X := ⟨_, rfl⟩
    obtain ⟨k9, _, _, x9⟩ := three_set w4 z (.int .i64 2) (.int .i64 0) (.bool false) _ _ ⟨_, _, _, rfl⟩ HX4.out W10 hW10
    rw [hW10]
    clear n0' n1' n2' p0 p1 p2
    obtain ⟨d0, d1, d2⟩ := trio x9
    exact bodyPost_ret (v := .agg #[.int .i64 2, .int .i64 0, .bool false]) (by simp [results, Try.results78, go_sem, d0, d1, d2]) rfl ⟨by rw [HT.out]; rfl, (HB.out.trans (HB4.out.mono HB.out.size)).trans (k9.mono (by have := HZ.out; omega))⟩
end Go.Proofs.Ythhimllddgfddaa
namespace Go.Proofs.Ythhimllddgfddaa
open Go.RowKit Go.PlainAid Go.Sort
set_option linter.unusedVariables false
set_option linter.unusedSimpArgs false
def xDay : Xp := .mk 15 0 ⟨#[]⟩ [.mk 4 0 ⟨#[]⟩ [], .mk 2 19723 ⟨#[]⟩ []]
abbrev cDay : Array Value := #[.int .i64 4, .int .i64 0, .string ⟨#[]⟩, .slice none 0 0, .int .i64 2, .int .i64 19723, .string ⟨#[]⟩, .slice none 0 0]
/-- A list of two in one block. -/
theorem two_list {S : Nat → Prop} {w : World} {g : Nat} {x y : Xp} {bo co : Option Addr} {k k' : Nat} (hg : S g) (h : w.heap[g]? = some (.cells #[.int .i64 x.op, .int .i64 x.n, .string x.nm, .slice bo x.args.length k, .int .i64 y.op, .int .i64 y.n, .string y.nm, .slice co y.args.length k'] 53 (0, 0))) (hx : x.args.length ≤ k) (hy : y.args.length ≤ k') (ex : ExL S w x.args bo) (ey : ExL S w y.args co) : ExL S w [x, y] (some ⟨g, 0, none⟩) := by
  refine fun _ => ⟨_, rfl, hg, ExR.mk fun i u hu => ?_⟩
  have ea : ∀ j, (⟨g, 0, none⟩ : Addr).add j = ⟨g, j, none⟩ := fun j => by unfold Addr.add; split <;> simp_all
  rw [ea]
  match i, hu with
  | 0, hu =>
    simp at hu
    subst hu
    exact ⟨bo, k, hx, ⟨cell_blk h 0, cell_blk h 1, cell_blk h 2, cell_blk h 3⟩, ex⟩
  | 1, hu =>
    simp at hu
    subst hu
    exact ⟨co, k', hy, ⟨cell_blk h 4, cell_blk h 5, cell_blk h 6, cell_blk h 7⟩, ey⟩
theorem no_list (S : Nat → Prop) (w : World) (ao : Option Addr) : ExL S w [] ao := fun h => absurd rfl h
def pOps (o a b : Int) : Prop := o = 15 ∨ o = 16
theorem pOps_worked : ∀ o a b, pOps o a b → ∀ w, Calls Try.prog 78 #[.int .i64 o, .int .i64 a, .int .i64 b] w fun e w' => e = .returned (vlV (wkV o a b)) ∧ Below w.heap.size w w' := by
  rintro o a b (rfl | rfl) w
  · exact worked_15 a b w
  · exact worked_16 a b w
theorem list_box (cs : Array Value) (v0 v1 v2 v3 : Value) (T : TypeId) (w : World) : ∀ W, (w.alloc (.cells cs T)).alloc (.cells #[v0, v1, v2, v3] T) = W → Below w.heap.size w W ∧ W.heap[w.heap.size]? = some (.cells cs T (0, 0)) ∧ W.heap[w.heap.size + 1]? = some (.cells #[v0, v1, v2, v3] T (0, 0)) ∧ W.heap.size = w.heap.size + 2 := by
  rintro W rfl
  have k1 := (Below.refl w.heap.size w).alloc (Nat.le_refl _) (.cells cs T)
  have s1 : (w.alloc (.cells cs T)).heap.size = w.heap.size + 1 := by simp
  have k2 := (Below.refl (w.alloc (.cells cs T)).heap.size (w.alloc (.cells cs T))).alloc (Nat.le_refl _) (.cells #[v0, v1, v2, v3] T)
  refine ⟨below_mono k1 k2 (Nat.le_refl _), (k2.block _ (by omega)).trans (heap_alloc_new w _), ?_, by simp [s1]⟩
  rw [← s1]
  exact heap_alloc_new _ _
end Go.Proofs.Ythhimllddgfddaa
namespace Go.Proofs.Ythhimllddgfddaa
open Go.RowKit Go.PlainAid
set_option linter.unusedVariables false
set_option linter.unusedSimpArgs false
def flat3 (l : List Fx) : List Value := l.flatMap fun f => [.string f.nm, .int .i64 f.day, .int .i64 f.val]
theorem flat3_snoc (l : List Fx) (f : Fx) : flat3 (l ++ [f]) = flat3 l ++ [.string f.nm, .int .i64 f.day, .int .i64 f.val] := by simp [flat3]
theorem flat3_get : ∀ (l : List Fx) (i : Nat) (f : Fx), l[i]? = some f → ∀ k, k < 3 → (flat3 l)[i * 3 + k]? = [Value.string f.nm, .int .i64 f.day, .int .i64 f.val][k]?
  | [], i, q, h, k, hk => by simp at h
  | p :: t, 0, q, h, k, hk => by
    simp at h
    subst h
    rw [Nat.zero_mul, Nat.zero_add]
    simp only [flat3, List.flatMap_cons]
    rw [List.getElem?_append_left (by simpa using hk)]
  | p :: t, i + 1, q, h, k, hk => by
    have ih := flat3_get t i q (by simpa using h) k hk
    simp only [flat3, List.flatMap_cons] at ih ⊢
    rw [List.getElem?_append_right (by simp; omega)]
    simp only [List.length_cons, List.length_nil]
    rw [show (i + 1) * 3 + k - (0 + 1 + 1 + 1) = i * 3 + k from by omega]
    exact ih
/-- A row of the call's own that holds fixings. -/
def Row3 (w : World) (B : Nat) (v : Value) (l : List Fx) : Prop := w.ownsRow B 73 3 v l.length (flat3 l)
theorem Row3.nil (w : World) (B : Nat) : Row3 w B (.slice none 0 0) [] := World.ownsRow_nil w B _ 3
theorem Row3.stay {w w' : World} {B : Nat} {v : Value} {l : List Fx} (h : Row3 w B v l) (hg : ∀ g, v.ownBlock = some g → w'.heap[g]? = w.heap[g]?) : Row3 w' B v l := row_stay h hg
theorem Row3.lt {w : World} {B : Nat} {v : Value} {l : List Fx} (h : Row3 w B v l) {g : Nat} (hg : v.ownBlock = some g) : g < w.heap.size ∧ B ≤ g := by
  rcases h.2 with ⟨rfl, h0⟩ | ⟨g', cap, cur, rfl, hb, hgg, _⟩
  · cases hg
  · cases hg
    exact ⟨lt_of_heap hgg, hb⟩
theorem Row3.at {w : World} {B : Nat} {va : Option Addr} {n c : Nat} {l : List Fx} (h : Row3 w B (.slice va n c) l) : FxA (fun b => B ≤ b ∧ b < w.heap.size) va l w := by
  intro hl
  rcases h.2 with ⟨hv, h0⟩ | ⟨b, cp, cur, hv, hb, hg, hc, _, hsz, htk⟩
  · have : l = [] := List.length_eq_zero_iff.1 h0
    exact absurd this hl
  · injection hv with e1 e2 e3
    refine ⟨_, e1, ⟨hb, lt_of_heap hg⟩, fun i f hf => ?_⟩
    have hi := (List.getElem?_eq_some_iff.1 hf).1
    have hcell : ∀ k, k < 3 → w.cell? ⟨b, i * 3 + k, none⟩ = [Value.string f.nm, .int .i64 f.day, .int .i64 f.val][k]? := by
      intro k hk
      rw [cell_blk hg, ← flat3_get l i f hf k hk, ← htk, List.getElem?_take_of_lt (by omega)]
      simp
    have ea : ∀ j, (⟨b, 0, none⟩ : Addr).add j = ⟨b, j, none⟩ := fun j => by unfold Addr.add; split <;> simp_all
    rw [ea]
    exact ⟨hcell 0 (by omega), hcell 1 (by omega), hcell 2 (by omega)⟩
theorem fixInfo : (Try.prog.info? 73).map (fun i => (i.zero, i.size, i.bytes)) = some (some (.agg #[.string ⟨#[]⟩, .int .i64 0, .int .i64 0]), 3, 32) := by kernel_rfl
/-- append(l, f), of a fixing in a new block. -/
theorem step_appF {w : World} {ops : Array Oper} {o : Oper} {a : Act} {K : Act → World → Prop} {Q : Exit → Act → World → Prop} {E : Prop} (hgd : o.guard = none) (s x : Operand)
    (ho : o.op = .call { callee := .builtin .append, args := #[s, x], argTypes := #[42, 42] })
    (B : Nat) (v : Value) (l : List Fx) (hs : a.eval s = v) (hown : Row3 w B v l) (g : Nat) (t0 : ByteArray) (i1 i2 : Int) (hx : a.eval x = .slice (some ⟨g, 0, none⟩) 1 1)
    (hc : w.heap[g]? = some (.cells #[.string t0, .int .i64 i1, .int .i64 i2] 73 (0, 0))) (hl : l.length ≤ 1000) (hB : B ≤ w.heap.size)
    (h : ∀ g' cap w', Row3 w' B (.slice (some ⟨g', 0, none⟩) (l.length + 1) cap) (l ++ [⟨t0, i1, i2⟩]) → w.grownBy w' v.ownBlock → (v.ownBlock = some g' ∨ g' = w.heap.size) → g' < w'.heap.size → K (a.put o.dst (.slice (some ⟨g', 0, none⟩) (l.length + 1) cap)) w') :
    if Region.wanted o (yielded ops a.tmps) = true then Oper.wp Try.prog o a w K Q else E := by
  obtain ⟨i, hi, hz0, hz1, hz2⟩ := info_parts fixInfo
  refine step_append_lies w hgd s x 42 ho B 73 i (.agg #[.string ⟨#[]⟩, .int .i64 0, .int .i64 0]) 3 32 Try.underlying42 hi hz0 hz1 hz2 rfl (by decide) v l.length (flat3 l) hs hown ⟨g, 0, none⟩ 1 1 [.string t0, .int .i64 i1, .int .i64 i2] hx rfl ?_ ?_ (by decide) ?_ ?_ hB _ rfl ?_
  · intro j u hj
    match j, hj with
    | 0, hj => simp at hj; subst hj; exact cell_blk hc 0
    | 1, hj => simp at hj; subst hj; exact cell_blk hc 1
    | 2, hj => simp at hj; subst hj; exact cell_blk hc 2
  · intro u hu
    simp at hu
    rcases hu with rfl | rfl | rfl <;> rfl
  · unfold maxLen; omega
  · omega
  · intro g' cap w' h1 h2 h3 h4
    refine h g' cap w' ?_ h2 h3 h4
    unfold Row3
    rw [flat3_snoc, List.length_append]
    exact h1
theorem grown_rowF {W A C : World} {q : Nat} {row : Option Nat} (hA : W.grownBy A (some q)) (hC : A.grownBy C row) (h : ∀ g, row = some g → W.heap.size ≤ g) : W.grownBy C (some q) :=
  ⟨hC.os.trans hA.os, hC.tape.trans hA.tape, hC.output.trans hA.output, Nat.le_trans hA.size hC.size, fun k hk hne => (hC.block k (Nat.lt_of_lt_of_le hk hA.size) (fun e => by have := h k e.symm; omega)).trans (hA.block k hk hne)⟩
/-- The environment under way. -/
structure EnvB (W : World) (eb : Nat) (day : Int) (va : Option Addr) (n vc : Nat) (l : List Fx) (wr : World) : Prop where
  row : Row3 wr W.heap.size (.slice va n vc) l
  len : l.length = n
  grow : W.grownBy wr (some eb)
  box : wr.heap[eb]? = some (.cells #[.int .i64 day, .slice va n vc] 44 (0, 0))
theorem EnvB.next {W : World} {eb : Nat} {day : Int} {va : Option Addr} {n vc : Nat} {l : List Fx} {wr w' : World} (h : EnvB W eb day va n vc l wr) (k : Below wr.heap.size wr w') : EnvB W eb day va n vc l w' :=
  ⟨h.row.stay fun g hg => k.block g (h.row.lt hg).1, h.len, only_below h.grow k, (k.block eb (lt_of_heap h.box)).trans h.box⟩
theorem EnvB.app {W : World} {eb : Nat} {day : Int} {va : Option Addr} {n vc : Nat} {l : List Fx} {wA w5 : World} {f : Fx} {g' cap : Nat} (h : EnvB W eb day va n vc l wA) (hcb : eb < W.heap.size)
    (hown : Row3 w5 W.heap.size (.slice (some ⟨g', 0, none⟩) (n + 1) cap) (l ++ [f])) (hg : wA.grownBy w5 (Value.slice va n vc).ownBlock) (hor : (Value.slice va n vc).ownBlock = some g' ∨ g' = wA.heap.size) :
    EnvB W eb day (some ⟨g', 0, none⟩) (n + 1) cap (l ++ [f]) (w5.setCell ⟨eb, 1, none⟩ (.slice (some ⟨g', 0, none⟩) (n + 1) cap)) := by
  have hg' : g' ≠ eb := by
    rcases hor with e | e
    · have := (h.row.lt e).2; omega
    · have := h.grow.size; omega
  have hst : ∀ b, b ≠ eb → (w5.setCell ⟨eb, 1, none⟩ (.slice (some ⟨g', 0, none⟩) (n + 1) cap)).heap[b]? = w5.heap[b]? := fun b hb => Below.heap_setCell _ _ _ _ hb
  have hfar : ∀ g, (Value.slice va n vc).ownBlock = some g → W.heap.size ≤ g := fun g hg => (h.row.lt hg).2
  refine ⟨hown.stay (fun g hg => by cases hg; exact hst _ hg'), by rw [List.length_append, h.len]; rfl, ?_, ?_⟩
  · exact only_set (grown_rowF h.grow hg hfar)
  · have hb5 : w5.heap[eb]? = some (.cells #[.int .i64 day, .slice va n vc] 44 (0, 0)) := (hg.block eb (Nat.lt_of_lt_of_le hcb h.grow.size) (fun e => by have := hfar eb e.symm; omega)).trans h.box
    exact heap_set_at (i := 1) _ hb5
/-- What env gives. -/
def EnvP (day : Int) (l : List Fx) (n : Nat) (w : World) (e : Ending) (w' : World) : Prop := (∃ a c, e = .returned (.agg #[.int .i64 day, .slice a n c]) ∧ FxA (fun b => w.heap.size ≤ b ∧ b < w'.heap.size) a l w') ∧ Below w.heap.size w w'
theorem env_made (e0 e1 : Value) (day : Int) (w : World) : ∀ W, ((w.alloc (.cells #[e0, e1] 26)).alloc (.cells #[.int .i64 0, .slice none 0 0] 44)).alloc (.cells #[.int .i64 day, .slice none 0 0] 44) = W → Below w.heap.size w W ∧ W.heap[w.heap.size]? = some (.cells #[e0, e1] 26 (0, 0)) ∧ W.heap[w.heap.size + 1]? = some (.cells #[.int .i64 0, .slice none 0 0] 44 (0, 0)) ∧ W.heap[w.heap.size + 1 + 1]? = some (.cells #[.int .i64 day, .slice none 0 0] 44 (0, 0)) := by
  rintro W rfl
  obtain ⟨k1, b1, s1⟩ := two_made e0 e1 26 w _ rfl
  obtain ⟨k2, b2, s2⟩ := two_made (.int .i64 0) (.slice none 0 0) 44 (w.alloc (.cells #[e0, e1] 26)) _ rfl
  obtain ⟨k3, b3, s3⟩ := two_made (.int .i64 day) (.slice none 0 0) 44 ((w.alloc (.cells #[e0, e1] 26)).alloc (.cells #[.int .i64 0, .slice none 0 0] 44)) _ rfl
  refine ⟨below_mono (below_mono k1 k2 (Nat.le_refl _)) k3 (Nat.le_refl _), (k3.block _ (by omega)).trans ((k2.block _ (by omega)).trans b1), (k3.block _ (by omega)).trans ?_, ?_⟩
  · rw [← s1]; exact b2
  · rw [show w.heap.size + 1 + 1 = ((w.alloc (.cells #[e0, e1] 26)).alloc (.cells #[.int .i64 0, .slice none 0 0] 44)).heap.size from by omega]; exact b3
theorem two_zero (w : World) (x0 x1 : Value) (T : TypeId) : ((w.alloc (.cells #[x0, x1] T)).cell? ⟨w.heap.size, 0, none⟩ = some x0 ∧ (w.alloc (.cells #[x0, x1] T)).cell? ⟨w.heap.size, 1, none⟩ = some x1) ∧ (w.alloc (.cells #[x0, x1] T)).frozen? ⟨w.heap.size, 0, none⟩ = false ∧ (w.alloc (.cells #[x0, x1] T)).frozen? ⟨w.heap.size, 1, none⟩ = false :=
  ⟨⟨World.cell?_alloc_at _ _ _ _ rfl, World.cell?_alloc_at _ _ _ _ rfl⟩, World.frozen?_alloc_at _ _ _ _ rfl, World.frozen?_alloc_at _ _ _ _ rfl⟩
/-- What env gives, as a row of its own. -/
def EnvR (day : Int) (l : List Fx) (n : Nat) (w : World) (e : Ending) (w' : World) : Prop := (∃ a c, e = .returned (.agg #[.int .i64 day, .slice a n c]) ∧ Row3 w' w.heap.size (.slice a n c) l) ∧ Below w.heap.size w w'
theorem row3_lower {w : World} {B C : Nat} {v : Value} {l : List Fx} (h : Row3 w B v l) (hb : C ≤ B) : Row3 w C v l := ⟨h.1, h.2.imp id fun ⟨g, cap, cur, hv, hg, r⟩ => ⟨g, cap, cur, hv, Nat.le_trans hb hg, r⟩⟩
set_option maxRecDepth 100000 in
set_option maxHeartbeats 8000000 in
theorem env_row {R : Nat → Prop} {ao : Option Addr} {l : List Fx} {cap : Nat} (day : Int) (w : World) (h : FxA R ao l w) (hl : l.length ≤ 200) (hR : ∀ b, R b → b < w.heap.size) :
    Calls Try.prog 10 #[.agg #[.int .i64 day, .slice ao l.length cap]] w (EnvR day l l.length w) := by
  obtain ⟨m, hm⟩ : ∃ m, m = l.length := ⟨_, rfl⟩
  rw [← hm]
  have GA := Lib.hid (env_made (.int .i64 day) (.slice ao m cap) day w)
  have HX : Hid (∀ W, Below w.heap.size w W → FxA R ao l W) := Lib.hid fun W hW => h.stay (fun _ h => h) fun b hb => hW.block b (hR b hb)
  have HM := Lib.hid hm
  have hm6 : m ≤ 200 := by omega
  obtain ⟨W1, hW1⟩ : ∃ X, (w.alloc (.cells #[.int .i64 day, .slice ao m cap] 26)).alloc (.cells #[.int .i64 0, .slice none 0 0] 44) = X := ⟨_, rfl⟩
  have h1 : ((w.alloc (.cells #[.int .i64 day, .slice ao m cap] 26)).alloc (.cells #[.int .i64 0, .slice none 0 0] 44)).cell? ⟨w.heap.size, 0, none⟩ = some (.int .i64 day) := by
    obtain ⟨k1, b1, s1⟩ := two_made (.int .i64 day) (.slice ao m cap) 26 w _ rfl
    obtain ⟨k2, b2, s2⟩ := two_made (.int .i64 0) (.slice none 0 0) 44 (w.alloc (.cells #[.int .i64 day, .slice ao m cap] 26)) _ rfl
    exact cell_blk ((k2.block _ (by omega)).trans b1) 0
  obtain ⟨⟨r0, r1⟩, p0, p1⟩ := two_zero ((w.alloc (.cells #[.int .i64 day, .slice ao m cap] 26)).alloc (.cells #[.int .i64 0, .slice none 0 0] 44)) (.int .i64 0) (.slice none 0 0) 44
  clear h hl hm hR hW1
  go_enter Try.func10, Try.ntmps10
  go_upto_region 2 with fail
  clear h1 r0 r1 p0 p1
  obtain ⟨W, hW⟩ : ∃ X, ((w.alloc (.cells #[.int .i64 day, .slice ao m cap] 26)).alloc (.cells #[.int .i64 0, .slice none 0 0] 44)).alloc (.cells #[.int .i64 day, .slice none 0 0] 44) = X := ⟨_, rfl⟩
  obtain ⟨g1, b1, b2, b3⟩ := GA.out W hW
  obtain ⟨z, hz⟩ : ∃ z, z = w.heap.size := ⟨_, rfl⟩
  rw [← hz] at b1 b2 b3
  rw [hW, ← hz]
  have HG := Lib.hid g1
  have HB1 := Lib.hid b1
  have HB2 := Lib.hid b2
  have HE0 : Hid (EnvB W (z + 1 + 1) day none 0 0 [] W) := Lib.hid ⟨Row3.nil _ _, rfl, World.grownBy.refl W _, b3⟩
  have HZ := Lib.hid (show z = w.heap.size ∧ z + 1 + 1 < W.heap.size from ⟨hz, lt_of_heap b3⟩)
  clear hW b1 b2 b3 g1 GA hz
  go_upto_region 3 with fail
  go_loopw [4] (fun v wr => ∃ (j : Nat) (va : Option Addr) (vc : Nat), j ≤ m ∧ v = .int .i64 j ∧ Hid (EnvB W (z + 1 + 1) day va j vc (l.take j) wr)) (fun v _ => m - (intOf v).toNat)
  case atStart => exact ⟨0, none, 0, by omega, rfl, HE0⟩
  case round =>
    obtain ⟨j, va, vc, hj, rfl, HE⟩ := hrel
    have HBW : Hid (Below w.heap.size w wr) := Lib.hid (HG.out.grown HE.out.grow HG.out.size (fun g hg => by cases hg; have := HZ.out; omega))
    have HZ1 : Hid (wr.heap[z]? = some (.cells #[.int .i64 day, .slice ao m cap] 26 (0, 0))) := Lib.hid ((HE.out.grow.block z (lt_of_heap HB1.out) (by intro e; injection e with e; omega)).trans HB1.out)
    have HZ2 : Hid (wr.heap[z + 1]? = some (.cells #[.int .i64 0, .slice none 0 0] 44 (0, 0))) := Lib.hid ((HE.out.grow.block (z + 1) (lt_of_heap HB2.out) (by intro e; injection e with e; omega)).trans HB2.out)
    obtain ⟨e0, e1⟩ := duo HZ1.out
    have j0 : (0 : Int) ≤ (j : Int) := by omega
    by_cases hlt : j < m
    · obtain ⟨f, hf⟩ : ∃ f, l[j]? = some f := ⟨_, List.getElem?_eq_getElem (by rw [← HM.out]; exact hlt)⟩
      obtain ⟨a, rfl, hra, y0, y1, y2⟩ := (HX.out wr HBW.out).get hf
      have HTK : Hid (l.take (j + 1) = l.take j ++ [f]) := Lib.hid (by rw [List.take_add_one, hf]; rfl)
      obtain ⟨fs, hfs⟩ : ∃ v, v = f.nm := ⟨_, rfl⟩
      obtain ⟨fd, hfd⟩ : ∃ v, v = f.day := ⟨_, rfl⟩
      obtain ⟨fv, hfv⟩ : ∃ v, v = f.val := ⟨_, rfl⟩
      have HFF : Hid (f = ⟨fs, fd, fv⟩) := Lib.hid (by rw [hfs, hfd, hfv])
      rw [← hfs] at y0
      rw [← hfd] at y1
      rw [← hfv] at y2
      have j1 : (j : Int) < (m : Int) := by omega
      have b1 := cell_blk HE.out.box 1
      simp only [List.getElem?_toArray] at b1
      have c1 : wr.cell? ⟨z + 1 + 1, 1, none⟩ = some (.slice va j vc) := cell_blk HE.out.box 1
      have f1 : wr.frozen? ⟨z + 1 + 1, 1, none⟩ = false := free_blk HE.out.box 1
      have HA4 := Lib.hid ((Below.refl wr.heap.size wr).alloc (Nat.le_refl _) (.cells #[.string fs, .int .i64 fd, .int .i64 fv] 73))
      have H4A : Hid ((wr.alloc (.cells #[.string fs, .int .i64 fd, .int .i64 fv] 73)).drew.heap[wr.heap.size]? = some (.cells #[.string fs, .int .i64 fd, .int .i64 fv] 73 (0, 0))) := Lib.hid (heap_alloc_new wr (.cells #[.string fs, .int .i64 fd, .int .i64 fv] 73))
      have HE4 : Hid (EnvB W (z + 1 + 1) day va j vc (l.take j) (wr.alloc (.cells #[.string fs, .int .i64 fd, .int .i64 fv] 73)).drew) := Lib.hid (HE.out.next HA4.out.drew)
      have c1a : (wr.alloc (.cells #[.string fs, .int .i64 fd, .int .i64 fv] 73)).cell? ⟨z + 1 + 1, 1, none⟩ = some (.slice va j vc) := cell_blk HE4.out.box 1
      clear hfs hfd hfv hf hra b1
      go_upto_region 5 with fail
      go_region_law (refine step_appF rfl _ _ rfl W.heap.size (.slice va j vc) _ rfl HE4.out.row wr.heap.size fs fd fv rfl H4A.out (by rw [HE4.out.len]; omega) HE4.out.grow.size ?_; rw [HE4.out.len]; intro g' cap' w5 hown hgr hor hgl; have HR5 := Lib.hid hown; have HG5 := Lib.hid hgr; have HO5 := Lib.hid hor; have HX5 := Lib.hid ((hgr.block (z + 1 + 1) (lt_of_heap HE4.out.box) (by intro e; have := (HE4.out.row.lt e.symm).2; have := HZ.out; omega)).trans HE4.out.box); have e5 : w5.cell? ⟨z + 1 + 1, 1, none⟩ = some (.slice va j vc) := cell_blk HX5.out 1; have f5 : w5.frozen? ⟨z + 1 + 1, 1, none⟩ = false := free_blk HX5.out 1; clear hown hgr hor hgl)
      all_goals
        go_wp2_with fail
        rw [← HFF.out] at HR5
        refine ⟨⟨j + 1, some ⟨g', 0, none⟩, cap', by omega, by go_num, ?_⟩, by simp [intOf]; omega⟩
        rw [HTK.out]
        exact Lib.hid (HE4.out.app HZ.out.2 HR5.out HG5.out HO5.out)
    · obtain rfl : j = m := by omega
      have HT : Hid (l.take j = l) := Lib.hid (List.take_of_length_le (by rw [HM.out]; exact Nat.le_refl _))
      rw [HT.out] at HE
      have j1 : ¬ (j : Int) < (j : Int) := by omega
      obtain ⟨c0, c1⟩ := duo HE.out.box
      obtain ⟨r0, r1⟩ := duo HZ2.out
      have p0 : wr.frozen? ⟨z + 1, 0, none⟩ = false := free_blk HZ2.out 0
      have p1 : wr.frozen? ⟨z + 1, 1, none⟩ = false := free_blk HZ2.out 1
      go_wp2_with fail
      obtain ⟨W9, hW9⟩ : ∃ X, ((wr.setCell ⟨z + 1, 0, none⟩ (.int .i64 day)).setCell ⟨z + 1, 1, none⟩ (.slice va j vc)) = X := ⟨_, rfl⟩
      have x9 : W9.heap[z + 1]? = some (.cells #[.int .i64 day, .slice va j vc] 44 (0, 0)) := by
        rw [← hW9]
        exact heap_set_at (i := 1) _ (heap_set_at (i := 0) (.int .i64 day) HZ2.out)
      have f9 : ∀ b, b ≠ z + 1 → W9.heap[b]? = wr.heap[b]? := fun b hb => by
        rw [← hW9]
        exact (Below.heap_setCell _ _ _ _ hb).trans (Below.heap_setCell _ _ _ _ hb)
      have s9 : W9.heap.size = wr.heap.size := by rw [← hW9]; simp
      have k9 : Below w.heap.size w W9 := by
        rw [← hW9]
        have hz1 : w.heap.size ≤ z + 1 := by have := HZ.out; omega
        exact (HBW.out.setCell (p := ⟨z + 1, 0, none⟩) hz1 _).setCell (p := ⟨z + 1, 1, none⟩) hz1 _
      rw [hW9]
      obtain ⟨d0, d1⟩ := duo x9
      have hfin : EnvR day l j w (.returned (.agg #[.int .i64 day, .slice va j vc])) W9 := ⟨⟨va, vc, rfl, row3_lower (HE.out.row.stay fun g hg => f9 g (by have h1 := (HE.out.row.lt hg).2; have h2 := HZ.out.2; omega)) HG.out.size⟩, k9⟩
      exact bodyPost_ret (v := .agg #[.int .i64 day, .slice va j vc]) (by simp [results, Try.results10, go_sem, d0, d1]) rfl hfin
theorem env_any {R : Nat → Prop} {ao : Option Addr} {l : List Fx} {cap : Nat} (day : Int) (w : World) (h : FxA R ao l w) (hl : l.length ≤ 200) (hR : ∀ b, R b → b < w.heap.size) :
    Calls Try.prog 10 #[.agg #[.int .i64 day, .slice ao l.length cap]] w (EnvP day l l.length w) :=
  (env_row day w h hl hR).mono fun e w' ⟨⟨a, c, he, hr⟩, hb⟩ => ⟨⟨a, c, he, hr.at⟩, hb⟩
end Go.Proofs.Ythhimllddgfddaa
namespace Go.Proofs.Ythhimllddgfddaa
open Go.ChangeShapes Go.WideShapes Go.RowKit Go.Deep Go.WideElems Go.Maps
set_option linter.unusedVariables false
section
variable {H : Type} {enc : TypeId × Value → H} {P : Program} {w : World} {base : Nat} {spare : Nat → Bool} {held : Bool}
theorem duet {α : Type} {cs : Array α} (h : cs.size = 2) : ∃ c0 c1, cs = #[c0, c1] := by
  obtain ⟨l⟩ := cs
  match l, h with
  | [c0, c1], _ => exact ⟨c0, c1, rfl⟩
/-- The fields' own readings. -/
theorem open_duet {r : Reach} {b0 : Nat} {t : TypeId} {f0 f1 : Field} {v : Value} {d : DataW H} {p : List MemPlace} (hs : P.underlying t = some (.struct #[f0, f1])) (hone : oneCellFields P #[f0, f1] = true) (hC : P.cellsOf t = 2)
    (hv : Value.okWide P w r b0 t v) (h : DataW.Trod enc P w base spare held t v d p) :
    ∃ (v0 v1 : Value) (y0 y1 : DataW H × List MemPlace) (n : Nat), v = .agg #[v0, v1] ∧
      DataW.trod enc P w base spare held n f0.type [v0] = some y0 ∧ DataW.trod enc P w base spare held n f1.type [v1] = some y1 := by
  obtain ⟨cs, rfl, hsz⟩ := okWide_struct hs hv
  obtain ⟨c0, c1, rfl⟩ := duet (hsz.trans hC)
  obtain ⟨fuel, hf⟩ := h
  obtain ⟨xs, n, _, _, hl, hlen, hf⟩ := DataW.trod_struct hs hf
  match xs, hlen with
  | [y0, y1], _ =>
    obtain ⟨o0, k0⟩ := hone_of hone 0 f0 rfl
    obtain ⟨o1, k1⟩ := hone_of hone 1 f1 rfl
    have h0 := hf 0 f0 rfl
    have h1 := hf 1 f1 rfl
    exact ⟨c0, c1, y0, y1, n, rfl, by simpa [Value.cells, o0, k0] using h0, by simpa [Value.cells, o1, k1] using h1⟩
end
end Go.Proofs.Ythhimllddgfddaa
namespace Go.Proofs.Ythhimllddgfddaa
set_option linter.unusedVariables false
set_option linter.unusedSimpArgs false
/-- A part: its factor, its side, the truths by which it ends, its term. -/
structure Pt where
  f : Int
  tn : Bool
  un : List Xp
  t : Tr
/-- A flow. -/
structure Fw where
  coin : ByteArray
  n : Int
abbrev Got := Option (List Pt × List Fw)
abbrev Acq := Int → Bool → List Xp → Got
def x0 : Xp := .mk 0 0 ⟨#[]⟩ []
def both (a b : Got) : Got := match a with
  | none => none
  | some (p, g) => match b with
    | none => none
    | some (q, h) => some (p ++ q, g ++ h)
def noA : Acq := fun _ _ _ => some ([], [])
def in64 (n : Int) : Bool := decide (-9223372036854775808 ≤ n ∧ n ≤ 9223372036854775807)
/-- What comes of a term, by what comes of those within. -/
def acqN (ev : Xp → Vl) (t : Tr) (rs : List Acq) : Acq := fun f tn un =>
  if t.op = 2 then some ([], if f = 0 then [] else [⟨t.nm, f⟩])
  else if t.op = 3 then (if in64 (-f) = true then rs.headD noA (-f) (!tn) un else none)
  else if t.op = 4 then both (rs.headD noA f tn un) (rs.getD 1 noA f tn un)
  else if t.op = 5 ∨ t.op = 9 then some ([⟨f, tn, un, t⟩], [])
  else if t.op = 6 ∨ t.op = 7 ∨ t.op = 8 then
    let v := ev (t.exprs.headD x0)
    if v.kind = 3 then none
    else if t.op = 8 then (if v.kind = 2 ∧ v.b = true then some ([], []) else rs.headD noA f tn (un ++ [t.exprs.headD x0]))
    else if v.kind = 2 ∧ v.b = true then rs.headD noA f tn un
    else if v.kind = 1 then (if in64 (f * v.n) = true then rs.headD noA (f * v.n) tn un else none)
    else some ([⟨f, tn, un, t⟩], [])
  else some ([], [])
def Tr.acq (ev : Xp → Vl) : Tr → Acq
  | .mk op nm es l => acqN ev (.mk op nm es l) (acqs ev l)
where acqs (ev : Xp → Vl) : List Tr → List Acq
  | [] => []
  | x :: t => Tr.acq ev x :: acqs ev t
theorem acqs_map (ev : Xp → Vl) (l : List Tr) : Tr.acq.acqs ev l = l.map (Tr.acq ev) := by
  induction l with
  | nil => rfl
  | cons x t ih => simp [Tr.acq.acqs, ih]
theorem Tr.acq_eq (ev : Xp → Vl) (t : Tr) : t.acq ev = acqN ev t (t.terms.map (Tr.acq ev)) := by
  cases t
  simp [Tr.acq, acqs_map, Tr.terms]
end Go.Proofs.Ythhimllddgfddaa
namespace Go.Proofs.Ythhimllddgfddaa
open Go.ChangeShapes Go.WideShapes Go.RowKit Go.Deep Go.WideElems Go.Maps
set_option linter.unusedVariables false
set_option linter.unusedSimpArgs false
/-- Only these blocks have changed, and new ones may be there. -/
structure Only (F : List Nat) (w w' : World) : Prop where
  os : w'.os = w.os
  tape : w'.tape = w.tape
  output : w'.output = w.output
  size : w.heap.size ≤ w'.heap.size
  block : ∀ k, k < w.heap.size → k ∉ F → w'.heap[k]? = w.heap[k]?
theorem Only.refl (F : List Nat) (w : World) : Only F w w := ⟨rfl, rfl, rfl, Nat.le_refl _, fun _ _ _ => rfl⟩
theorem Only.trans {F G : List Nat} {w w1 w2 : World} (h : Only F w w1) (k : Only G w1 w2) (hg : ∀ x ∈ G, x ∈ F ∨ w.heap.size ≤ x) : Only F w w2 :=
  ⟨k.os.trans h.os, k.tape.trans h.tape, k.output.trans h.output, Nat.le_trans h.size k.size, fun x hx hn => (k.block x (Nat.lt_of_lt_of_le hx h.size) (fun hm => (hg x hm).elim hn (fun h => by omega))).trans (h.block x hx hn)⟩
theorem Only.mono {F G : List Nat} {w w' : World} (h : Only F w w') (hg : ∀ x ∈ F, x ∈ G) : Only G w w' := ⟨h.os, h.tape, h.output, h.size, fun k hk hn => h.block k hk (fun hm => hn (hg k hm))⟩
theorem Only.set {F : List Nat} {w w' : World} (h : Only F w w') {a : Addr} (ha : a.block ∈ F ∨ w.heap.size ≤ a.block) (v : Value) : Only F w (w'.setCell a v) :=
  ⟨h.os, h.tape, h.output, by simpa using h.size, fun k hk hn => by rw [Below.heap_setCell _ _ _ _ (fun e => ha.elim (fun hm => hn (by rw [e]; exact hm)) (fun hl => by omega))]; exact h.block k hk hn⟩
theorem Only.grown {F : List Nat} {w w' w2 : World} {r : Option Nat} (h : Only F w w') (g : w'.grownBy w2 r) (hr : ∀ k, r = some k → k ∈ F ∨ w.heap.size ≤ k) : Only F w w2 :=
  ⟨g.os.trans h.os, g.tape.trans h.tape, g.output.trans h.output, Nat.le_trans h.size g.size, fun k hk hn => (g.block k (Nat.lt_of_lt_of_le hk h.size) (fun e => (hr k e.symm).elim hn (fun hl => by omega))).trans (h.block k hk hn)⟩
theorem Only.below {F : List Nat} {w w' : World} (h : Only F w w') {B : Nat} (hF : ∀ x ∈ F, B ≤ x) (hB : B ≤ w.heap.size) : Below B w w' :=
  ⟨h.os, h.tape, h.output, h.size, fun k hk => h.block k (by omega) (fun hm => by have := hF k hm; omega)⟩
theorem only_of {w w' : World} (h : Below w.heap.size w w') (F : List Nat) : Only F w w' := ⟨h.os, h.tape, h.output, h.size, fun k hk _ => h.block k hk⟩
theorem ty_ne {w : World} {a b : Nat} {cs ds : Array Value} {s t : TypeId} {x y : Nat × Nat} (h1 : w.heap[a]? = some (.cells cs s x)) (h2 : w.heap[b]? = some (.cells ds t y)) (hn : s ≠ t) : a ≠ b := by
  rintro rfl
  rw [h1] at h2
  cases h2
  exact hn rfl
theorem row_own {B n z : Nat} {e : TypeId} {v : Value} {xs : List Value} {w : World} (h : w.ownsRow B e z v n xs) {g : Nat} (hg : v.ownBlock = some g) : g < w.heap.size ∧ B ≤ g ∧ ∃ cur, w.heap[g]? = some (.cells cur e (0, 0)) := by
  rcases h.2 with ⟨rfl, h0⟩ | ⟨g', cap, cur, rfl, hb, hgg, _⟩
  · cases hg
  · cases hg
    exact ⟨lt_of_heap hgg, hb, cur, hgg⟩
/-- A part, and where its lists lie. -/
structure Pp where
  p : Pt
  uo : Option Addr
  uk : Nat
  eo : Option Addr
  ek : Nat
  tb : Option Addr
  tk : Nat
abbrev Pp.cells (q : Pp) : List Value := [.int .i64 q.p.f, .bool q.p.tn, .slice q.uo q.p.un.length q.uk, .int .i64 q.p.t.op, .string q.p.t.nm, .slice q.eo q.p.t.exprs.length q.ek, .slice q.tb q.p.t.terms.length q.tk]
def flat7 (l : List Pp) : List Value := l.flatMap Pp.cells
theorem flat7_snoc (l : List Pp) (q : Pp) : flat7 (l ++ [q]) = flat7 l ++ q.cells := by simp [flat7]
def flatG (l : List Fw) : List Value := l.flatMap fun f => [.string f.coin, .int .i64 f.n]
theorem flatG_len (l : List Fw) : (flatG l).length = l.length * 2 := by
  induction l with
  | nil => rfl
  | cons q t ih => simp only [flatG, List.flatMap_cons, List.length_append, List.length_cons, List.length_nil] at ih ⊢; omega
theorem flatG_snoc (l : List Fw) (f : Fw) : flatG (l ++ [f]) = flatG l ++ [.string f.coin, .int .i64 f.n] := by simp [flatG]
/-- What a part's lists are in memory. -/
structure QP (S : Nat → Prop) (w : World) (q : Pp) : Prop where
  uc : q.p.un.length ≤ q.uk
  un : ExL S w q.p.un q.uo
  tr : TrOk S w q.p.t q.eo q.ek q.tb q.tk
theorem QP.stay {S T : Nat → Prop} {w w' : World} {q : Pp} (h : QP S w q) (hT : ∀ b, S b → T b) (hS : ∀ b, S b → w'.heap[b]? = w.heap[b]?) : QP T w' q := ⟨h.uc, h.un.stay hT hS, h.tr.stay hT hS⟩
/-- The blocks that acquiring leaves alone. -/
def Away (wb : Nat) (pv gv : Value) (w : World) (b : Nat) : Prop := b < w.heap.size ∧ b ≠ wb ∧ pv.ownBlock ≠ some b ∧ gv.ownBlock ≠ some b
/-- The works in memory. -/
structure Wk (B wb : Nat) (day : Int) (fa : Option Addr) (fc : Nat) (F : List Fx) (l : List Pp) (G : List Fw) (br : Bool) (pv gv : Value) (w : World) : Prop where
  hd : w.heap[wb]? = some (.cells #[.int .i64 day, .slice fa F.length fc, pv, gv, .bool br] 67 (0, 0))
  hb : B ≤ wb
  pr : w.ownsRow B 70 7 pv l.length (flat7 l)
  gr : w.ownsRow B 55 2 gv G.length (flatG G)
  ql : ∀ q ∈ l, QP (Away wb pv gv w) w q
  fx : FxA (Away wb pv gv w) fa F w
/-- From one state of the works to another one. -/
structure Fr (wb : Nat) (pv gv pv' gv' : Value) (w w' : World) : Prop where
  only : Only (wb :: (pv.ownBlock.toList ++ gv.ownBlock.toList)) w w'
  p : ∀ b, pv'.ownBlock = some b → pv.ownBlock = some b ∨ w.heap.size ≤ b
  g : ∀ b, gv'.ownBlock = some b → gv.ownBlock = some b ∨ w.heap.size ≤ b
section
variable {B wb : Nat} {day : Int} {fa : Option Addr} {fc : Nat} {F : List Fx} {l : List Pp} {G : List Fw} {br : Bool} {pv gv pv' gv' pv2 gv2 : Value} {w w' w2 : World}
theorem Fr.refl (wb : Nat) (pv gv : Value) (w : World) : Fr wb pv gv pv gv w w := ⟨Only.refl _ w, fun b h => .inl h, fun b h => .inl h⟩
theorem Fr.of (k : Below w.heap.size w w') : Fr wb pv gv pv gv w w' := ⟨only_of k _, fun b h => .inl h, fun b h => .inl h⟩
theorem Fr.trans (h : Fr wb pv gv pv' gv' w w') (k : Fr wb pv' gv' pv2 gv2 w' w2) : Fr wb pv gv pv2 gv2 w w2 := by
  refine ⟨h.only.trans k.only fun x hx => ?_, fun b hb => ?_, fun b hb => ?_⟩
  · simp only [List.mem_cons, List.mem_append, Option.mem_toList] at hx ⊢
    rcases hx with rfl | hx | hx
    · exact .inl (.inl rfl)
    · rcases h.p x hx with h1 | h1
      · exact .inl (.inr (.inl h1))
      · exact .inr h1
    · rcases h.g x hx with h1 | h1
      · exact .inl (.inr (.inr h1))
      · exact .inr h1
  · rcases k.p b hb with h1 | h1
    · exact h.p b h1
    · exact .inr (Nat.le_trans h.only.size h1)
  · rcases k.g b hb with h1 | h1
    · exact h.g b h1
    · exact .inr (Nat.le_trans h.only.size h1)
theorem Fr.keep (h : Fr wb pv gv pv' gv' w w') {b : Nat} (hb : Away wb pv gv w b) : w'.heap[b]? = w.heap[b]? := h.only.block b hb.1 fun hm => by
  simp only [List.mem_cons, List.mem_append, Option.mem_toList] at hm
  rcases hm with h1 | h1 | h1
  · exact hb.2.1 h1
  · exact hb.2.2.1 h1
  · exact hb.2.2.2 h1
theorem Fr.away (h : Fr wb pv gv pv' gv' w w') {b : Nat} (hb : Away wb pv gv w b) : Away wb pv' gv' w' b :=
  ⟨Nat.lt_of_lt_of_le hb.1 h.only.size, hb.2.1, fun e => (h.p b e).elim hb.2.2.1 (fun h1 => by have := hb.1; omega), fun e => (h.g b e).elim hb.2.2.2 (fun h1 => by have := hb.1; omega)⟩
theorem Wk.lt (h : Wk B wb day fa fc F l G br pv gv w) : wb < w.heap.size := lt_of_heap h.hd
theorem Wk.pw (h : Wk B wb day fa fc F l G br pv gv w) {b : Nat} (hb : pv.ownBlock = some b) : b ≠ wb := by
  obtain ⟨_, _, cur, hg⟩ := row_own h.pr hb
  exact ty_ne hg h.hd (by decide)
theorem Wk.gw (h : Wk B wb day fa fc F l G br pv gv w) {b : Nat} (hb : gv.ownBlock = some b) : b ≠ wb := by
  obtain ⟨_, _, cur, hg⟩ := row_own h.gr hb
  exact ty_ne hg h.hd (by decide)
theorem Wk.pg (h : Wk B wb day fa fc F l G br pv gv w) {b c : Nat} (hb : pv.ownBlock = some b) (hc : gv.ownBlock = some c) : b ≠ c := by
  obtain ⟨_, _, cur, hg⟩ := row_own h.pr hb
  obtain ⟨_, _, cur', hg'⟩ := row_own h.gr hc
  exact ty_ne hg hg' (by decide)
theorem Fr.below (h : Wk B wb day fa fc F l G br pv gv w) (k : Fr wb pv gv pv' gv' w w') (hB : B ≤ w.heap.size) : Below B w w' := k.only.below (fun x hx => by
  simp only [List.mem_cons, List.mem_append, Option.mem_toList] at hx
  rcases hx with rfl | hx | hx
  · exact h.hb
  · exact (row_own h.pr hx).2.1
  · exact (row_own h.gr hx).2.1) hB
theorem Wk.next (h : Wk B wb day fa fc F l G br pv gv w) (k : Below w.heap.size w w') : Wk B wb day fa fc F l G br pv gv w' := by
  have kr : Fr wb pv gv pv gv w w' := Fr.of k
  exact ⟨(k.block wb h.lt).trans h.hd, h.hb, row_stay h.pr fun g hg => k.block g (row_own h.pr hg).1, row_stay h.gr fun g hg => k.block g (row_own h.gr hg).1, fun q hq => (h.ql q hq).stay (fun b hb => kr.away hb) (fun b hb => kr.keep hb), h.fx.stay (fun b hb => kr.away hb) (fun b hb => kr.keep hb)⟩
/-- A flow more: the row has grown, and the works hold it. -/
theorem Wk.flow (h : Wk B wb day fa fc F l G br pv gv w) {f : Fw} {wA w5 : World} (kA : Below w.heap.size w wA) {gv' : Value} (hown : w5.ownsRow B 55 2 gv' (G ++ [f]).length (flatG (G ++ [f]))) (hg : wA.grownBy w5 gv.ownBlock) (hor : ∀ b, gv'.ownBlock = some b → gv.ownBlock = some b ∨ b = wA.heap.size) : Wk B wb day fa fc F l (G ++ [f]) br pv gv' (w5.setCell ⟨wb, 3, none⟩ gv') ∧ Fr wb pv gv pv gv' w (w5.setCell ⟨wb, 3, none⟩ gv') := by
  have kr : Fr wb pv gv pv gv' w (w5.setCell ⟨wb, 3, none⟩ gv') := ⟨((only_of kA _).grown hg (fun k hk => .inl (by simp [hk]))).set (a := ⟨wb, 3, none⟩) (.inl (by simp)) _, fun b h => .inl h, fun b hb => (hor b hb).imp id fun e => by have := kA.size; omega⟩
  have hk : ∀ b, b ≠ wb → (w5.setCell ⟨wb, 3, none⟩ gv').heap[b]? = w5.heap[b]? := fun b hb => Below.heap_setCell _ _ _ _ hb
  have h5 : ∀ b, b < w.heap.size → gv.ownBlock ≠ some b → w5.heap[b]? = w.heap[b]? := fun b hb hn => (hg.block b (Nat.lt_of_lt_of_le hb kA.size) hn.symm).trans (kA.block b hb)
  have hw5 : w5.heap[wb]? = some (.cells #[.int .i64 day, .slice fa F.length fc, pv, gv, .bool br] 67 (0, 0)) := (h5 wb h.lt (fun e => h.gw e rfl)).trans h.hd
  refine ⟨⟨heap_set_at (i := 3) _ hw5, h.hb, row_stay h.pr fun g hg => (hk g (h.pw hg)).trans (h5 g (row_own h.pr hg).1 (fun e => h.pg hg e rfl)), row_stay hown fun g hg' => hk g ?_, fun q hq => (h.ql q hq).stay (fun b hb => kr.away hb) (fun b hb => kr.keep hb), h.fx.stay (fun b hb => kr.away hb) (fun b hb => kr.keep hb)⟩, kr⟩
  rcases hor g hg' with e | e
  · exact h.gw e
  · have := h.lt; have := kA.size; omega
/-- A part more. -/
theorem Wk.part (h : Wk B wb day fa fc F l G br pv gv w) {q : Pp} {wA w5 : World} (kA : Below w.heap.size w wA) {pv' : Value} (hown : w5.ownsRow B 70 7 pv' (l ++ [q]).length (flat7 (l ++ [q]))) (hg : wA.grownBy w5 pv.ownBlock) (hor : ∀ b, pv'.ownBlock = some b → pv.ownBlock = some b ∨ b = wA.heap.size) (hq : QP (Away wb pv gv wA) wA q) : Wk B wb day fa fc F (l ++ [q]) G br pv' gv (w5.setCell ⟨wb, 2, none⟩ pv') ∧ Fr wb pv gv pv' gv w (w5.setCell ⟨wb, 2, none⟩ pv') := by
  have k2 : Fr wb pv gv pv' gv wA (w5.setCell ⟨wb, 2, none⟩ pv') := ⟨((Only.refl _ wA).grown hg (fun k hk => .inl (by simp [hk]))).set (a := ⟨wb, 2, none⟩) (.inl (by simp)) _, fun b hb => (hor b hb).imp id fun e => by omega, fun b h => .inl h⟩
  have kr : Fr wb pv gv pv' gv w (w5.setCell ⟨wb, 2, none⟩ pv') := (Fr.of kA).trans k2
  have hk : ∀ b, b ≠ wb → (w5.setCell ⟨wb, 2, none⟩ pv').heap[b]? = w5.heap[b]? := fun b hb => Below.heap_setCell _ _ _ _ hb
  have h5 : ∀ b, b < w.heap.size → pv.ownBlock ≠ some b → w5.heap[b]? = w.heap[b]? := fun b hb hn => (hg.block b (Nat.lt_of_lt_of_le hb kA.size) hn.symm).trans (kA.block b hb)
  have hw5 : w5.heap[wb]? = some (.cells #[.int .i64 day, .slice fa F.length fc, pv, gv, .bool br] 67 (0, 0)) := (h5 wb h.lt (fun e => h.pw e rfl)).trans h.hd
  refine ⟨⟨heap_set_at (i := 2) _ hw5, h.hb, row_stay hown fun g hg' => hk g ?_, row_stay h.gr fun g hg => (hk g (h.gw hg)).trans (h5 g (row_own h.gr hg).1 (fun e => h.pg e hg rfl)), fun p hp => ?_, h.fx.stay (fun b hb => kr.away hb) (fun b hb => kr.keep hb)⟩, kr⟩
  · rcases hor g hg' with e | e
    · exact h.pw e
    · have := h.lt; have := kA.size; omega
  · rcases List.mem_append.1 hp with hp | hp
    · exact (h.ql p hp).stay (fun b hb => kr.away hb) (fun b hb => kr.keep hb)
    · rw [List.mem_singleton] at hp
      subst hp
      exact hq.stay (fun b hb => k2.away hb) (fun b hb => k2.keep hb)
end
theorem flowInfo : (Try.prog.info? 55).map (fun i => (i.zero, i.size, i.bytes)) = some (some (.agg #[.string ⟨#[]⟩, .int .i64 0]), 2, 24) := by kernel_rfl
theorem partInfo : (Try.prog.info? 70).map (fun i => (i.zero, i.size, i.bytes)) = some (some (.agg #[.int .i64 0, .bool false, .slice none 0 0, .int .i64 0, .string ⟨#[]⟩, .slice none 0 0, .slice none 0 0]), 7, 112) := by kernel_rfl
/-- append(l, f), of a flow in a new block. -/
theorem step_appG {w : World} {ops : Array Oper} {o : Oper} {a : Act} {K : Act → World → Prop} {Q : Exit → Act → World → Prop} {E : Prop} (hgd : o.guard = none) (s x : Operand)
    (ho : o.op = .call { callee := .builtin .append, args := #[s, x], argTypes := #[38, 38] })
    (B : Nat) (v : Value) (l : List Fw) (hs : a.eval s = v) (hown : w.ownsRow B 55 2 v l.length (flatG l)) (g : Nat) (t0 : ByteArray) (i1 : Int) (hx : a.eval x = .slice (some ⟨g, 0, none⟩) 1 1)
    (hc : w.heap[g]? = some (.cells #[.string t0, .int .i64 i1] 55 (0, 0))) (hl : l.length ≤ 1000) (hB : B ≤ w.heap.size)
    (h : ∀ v' w', w'.ownsRow B 55 2 v' (l ++ [(⟨t0, i1⟩ : Fw)]).length (flatG (l ++ [(⟨t0, i1⟩ : Fw)])) → w.grownBy w' v.ownBlock → (∀ b, v'.ownBlock = some b → v.ownBlock = some b ∨ b = w.heap.size) → K (a.put o.dst v') w') :
    if Region.wanted o (yielded ops a.tmps) = true then Oper.wp Try.prog o a w K Q else E := by
  obtain ⟨i, hi, hz0, hz1, hz2⟩ := info_parts flowInfo
  refine step_append_lies w hgd s x 38 ho B 55 i (.agg #[.string ⟨#[]⟩, .int .i64 0]) 2 24 Try.underlying38 hi hz0 hz1 hz2 rfl (by decide) v l.length (flatG l) hs hown ⟨g, 0, none⟩ 1 1 [.string t0, .int .i64 i1] hx rfl ?_ ?_ (by decide) ?_ ?_ hB _ rfl ?_
  · intro j u hj
    match j, hj with
    | 0, hj => simp at hj; subst hj; exact cell_blk hc 0
    | 1, hj => simp at hj; subst hj; exact cell_blk hc 1
  · intro u hu
    simp at hu
    rcases hu with rfl | rfl <;> rfl
  · unfold maxLen; omega
  · omega
  · intro g' cap w' h1 h2 h3 h4
    refine h _ w' ?_ h2 (fun b hb => ?_)
    · rw [flatG_snoc, List.length_append]
      exact h1
    · cases hb
      exact h3
/-- append(l, p), of a part in a new block. -/
theorem step_appPt {w : World} {ops : Array Oper} {o : Oper} {a : Act} {K : Act → World → Prop} {Q : Exit → Act → World → Prop} {E : Prop} (hgd : o.guard = none) (s x : Operand)
    (ho : o.op = .call { callee := .builtin .append, args := #[s, x], argTypes := #[37, 37] })
    (B : Nat) (v : Value) (l : List Pp) (hs : a.eval s = v) (hown : w.ownsRow B 70 7 v l.length (flat7 l)) (g : Nat) (q : Pp) (hx : a.eval x = .slice (some ⟨g, 0, none⟩) 1 1)
    (hc : w.heap[g]? = some (.cells #[.int .i64 q.p.f, .bool q.p.tn, .slice q.uo q.p.un.length q.uk, .int .i64 q.p.t.op, .string q.p.t.nm, .slice q.eo q.p.t.exprs.length q.ek, .slice q.tb q.p.t.terms.length q.tk] 70 (0, 0))) (hl : l.length ≤ 1000) (hB : B ≤ w.heap.size)
    (h : ∀ v' w', w'.ownsRow B 70 7 v' (l ++ [q]).length (flat7 (l ++ [q])) → w.grownBy w' v.ownBlock → (∀ b, v'.ownBlock = some b → v.ownBlock = some b ∨ b = w.heap.size) → K (a.put o.dst v') w') :
    if Region.wanted o (yielded ops a.tmps) = true then Oper.wp Try.prog o a w K Q else E := by
  obtain ⟨i, hi, hz0, hz1, hz2⟩ := info_parts partInfo
  refine step_append_lies w hgd s x 37 ho B 70 i (.agg #[.int .i64 0, .bool false, .slice none 0 0, .int .i64 0, .string ⟨#[]⟩, .slice none 0 0, .slice none 0 0]) 7 112 Try.underlying37 hi hz0 hz1 hz2 rfl (by decide) v l.length (flat7 l) hs hown ⟨g, 0, none⟩ 1 1 q.cells hx rfl ?_ ?_ (by decide) ?_ ?_ hB _ rfl ?_
  · intro j u hj
    match j, hj with
    | 0, hj => simp at hj; subst hj; exact cell_blk hc 0
    | 1, hj => simp at hj; subst hj; exact cell_blk hc 1
    | 2, hj => simp at hj; subst hj; exact cell_blk hc 2
    | 3, hj => simp at hj; subst hj; exact cell_blk hc 3
    | 4, hj => simp at hj; subst hj; exact cell_blk hc 4
    | 5, hj => simp at hj; subst hj; exact cell_blk hc 5
    | 6, hj => simp at hj; subst hj; exact cell_blk hc 6
  · intro u hu
    simp at hu
    rcases hu with rfl | rfl | rfl | rfl | rfl | rfl | rfl <;> rfl
  · unfold maxLen; omega
  · omega
  · intro g' cap w' h1 h2 h3 h4
    refine h _ w' ?_ h2 (fun b hb => ?_)
    · rw [flat7_snoc, List.length_append]
      exact h1
    · cases hb
      exact h3
end Go.Proofs.Ythhimllddgfddaa
namespace Go.Proofs.Ythhimllddgfddaa
open Go.ChangeShapes Go.WideShapes Go.RowKit Go.Deep Go.WideElems Go.Maps
set_option linter.unusedVariables false
set_option linter.unusedSimpArgs false
theorem ad_add (a : Addr) (m n : Nat) : (a.add m).add n = a.add (m + n) := by
  unfold Addr.add
  split <;> split <;> split <;> simp_all <;> omega
theorem four_cell {w : World} {a : Addr} {v0 v1 v2 v3 : Value} (h : FourX w a v0 v1 v2 v3) : ∀ (k : Nat) u, [v0, v1, v2, v3][k]? = some u → w.cell? (a.add k) = some u
  | 0, u, hu => by simp at hu; subst hu; simpa [Addr.add] using h.1
  | 1, u, hu => by simp at hu; subst hu; simpa [Addr.add] using h.2.1
  | 2, u, hu => by simp at hu; subst hu; simpa [Addr.add] using h.2.2.1
  | 3, u, hu => by simp at hu; subst hu; simpa [Addr.add] using h.2.2.2
  | k + 4, u, hu => by simp at hu
theorem exr_rows {S : Nat → Prop} {w : World} : ∀ (l : List Xp) (a : Addr) (j : Nat), ExR S w l a j → ∃ qs, Fits (QX S w) l qs ∧ ∀ (i : Nat) q, qs[i]? = some q → FourX w (a.add ((j + i) * 4)) q.1 q.2.1 q.2.2.1 q.2.2.2
  | [], a, j, h => ⟨[], Fits.nil _, fun i q hq => by simp at hq⟩
  | x :: t, a, j, h => by
    unfold ExR at h
    obtain ⟨⟨bo, k, h1, h2, h3⟩, h4⟩ := h
    obtain ⟨qs, hf, hc⟩ := exr_rows t a (j + 1) h4
    refine ⟨(.int .i64 x.op, .int .i64 x.n, .string x.nm, .slice bo x.args.length k) :: qs, ⟨by simp [hf.1], fun i y q hy hq => ?_⟩, fun i q hq => ?_⟩
    · cases i with
      | zero => simp at hy hq; subst hy hq; exact ⟨bo, k, rfl, h1, h3.list⟩
      | succ i => exact hf.2 i y q (by simpa using hy) (by simpa using hq)
    · cases i with
      | zero => simp at hq; subst hq; exact h2
      | succ i =>
        have := hc i q (by simpa using hq)
        rwa [show j + 1 + i = j + (i + 1) from by omega] at this
theorem ExL.rows {S : Nat → Prop} {w : World} {l : List Xp} {a : Addr} (h : ExL S w l (some a)) : ∃ qs, Fits (QX S w) l qs ∧ ∀ (j : Nat) u, (flat4 qs)[j]? = some u → w.cell? (a.add j) = some u := by
  by_cases hl : l = []
  · subst hl
    exact ⟨[], Fits.nil _, fun j u hu => by simp [flat4] at hu⟩
  · obtain ⟨a', ha, _, h3⟩ := h hl
    cases ha
    obtain ⟨qs, hf, hc⟩ := exr_rows l a 0 h3
    refine ⟨qs, hf, fun j u hu => ?_⟩
    have hj : j < (flat4 qs).length := (List.getElem?_eq_some_iff.1 hu).1
    rw [flat4_len] at hj
    have hi : j / 4 < qs.length := by omega
    obtain ⟨q, hq⟩ : ∃ q, qs[j / 4]? = some q := ⟨_, List.getElem?_eq_getElem hi⟩
    have hg := flat4_get qs (j / 4) q hq (j % 4) (Nat.mod_lt _ (by omega))
    rw [show j / 4 * 4 + j % 4 = j from by omega, hu] at hg
    have h4 := four_cell (hc (j / 4) q hq) (j % 4) u hg.symm
    rw [ad_add, show (0 + j / 4) * 4 + j % 4 = j from by omega] at h4
    exact h4
theorem flat4_one {S : Nat → Prop} {w : World} {l : List Xp} {qs : List Q4} (hf : Fits (QX S w) l qs) {u : Value} (h : u ∈ flat4 qs) : u.oneCell' = true := by
  unfold flat4 at h
  obtain ⟨q, hq, hu⟩ := List.mem_flatMap.1 h
  obtain ⟨i, hi⟩ := List.mem_iff_getElem?.1 hq
  have hlt : i < qs.length := (List.getElem?_eq_some_iff.1 hi).1
  obtain ⟨bo, k, rfl, _⟩ := hf.2 i _ q (List.getElem?_eq_getElem (by rw [hf.1]; exact hlt)) hi
  simp at hu
  rcases hu with rfl | rfl | rfl | rfl <;> rfl
def ClX (S : Nat → Prop) (l : List Xp) (w : World) (e : Ending) (w' : World) : Prop := ∃ va vc qs, e = .returned (.slice va l.length vc) ∧ Row4 w' w.heap.size 53 (.slice va l.length vc) qs ∧ Fits (QX S w') l qs ∧ Below w.heap.size w w'
set_option maxRecDepth 100000 in
set_option maxHeartbeats 4000000 in
theorem clone_ex {S : Nat → Prop} {uo : Option Addr} {uk : Nat} {l : List Xp} (w : World) (h : ExL S w l uo) (hS : ∀ b, S b → b < w.heap.size) (hn : l.length ≤ 1000) :
    Calls Try.prog 53 #[.slice uo l.length uk] w (ClX S l w) := by
  obtain ⟨N, hN⟩ : ∃ N, N = l.length := ⟨_, rfl⟩
  have HN := Lib.hid hN
  rw [← hN] at hn ⊢
  clear hN
  have hr0 := Below.refl w.heap.size w
  cases uo with
  | none =>
    have e0 : l = [] := by
      by_cases hl : l = []
      · exact hl
      · obtain ⟨a, ha, _⟩ := h hl; cases ha
    have HE : Hid (∀ e w', e = Ending.returned (.slice none N 0) → w = w' → ClX S l w e w') := Lib.hid (fun e w' he hw => by
      subst hw
      have en : N = 0 := by rw [HN.out, e0]; rfl
      rw [en] at he
      subst e0
      exact ⟨none, 0, [], he, Row4.nil _ _ _, Fits.nil _, hr0⟩)
    have n0 : N = 0 := by rw [HN.out, e0]; rfl
    subst n0
    have hq : ∀ w, (binOp .eql 29 (.slice none 0 uk) (.slice none 0 0)).run Try.prog w = .ok (.bool true) w := fun w => Lib.run_eql_slice_nil_nil w 0 uk Try.underlying29
    clear h
    go_enter Try.func53, Try.ntmps53
    go_wp2_with fail
    go_ret
    exact HE.out _ _ rfl rfl
  | some g =>
    obtain ⟨qs, hf, hc⟩ := h.rows
    obtain ⟨i0, hi, he⟩ := Option.map_eq_some_iff.1 exprInfo
    simp only [Prod.mk.injEq] at he
    have R0 : Hid ((w.alloc (Obj.cells #[] 53)).ownsRow w.heap.size 53 4 (.slice (some ⟨w.heap.size, 0, none⟩) 0 0) 0 []) := Lib.hid (World.ownsRow_made (base := w.heap.size) (e := 53) (size := 4) w #[] 0 (Nat.le_refl _) (by decide) rfl)
    have KA : Hid (Below w.heap.size w (w.alloc (Obj.cells #[] 53))) := Lib.hid (hr0.alloc (Nat.le_refl _) _)
    have hx1 : ExL S (w.alloc (Obj.cells #[] 53)) l (some g) := h.stay (fun _ h => h) fun b hb => KA.out.block b (hS b hb)
    obtain ⟨qs, hf, hc⟩ := hx1.rows
    have RC : Hid (∀ j u, (flat4 qs)[j]? = some u → (w.alloc (Obj.cells #[] 53)).cell? (g.add j) = some u) := Lib.hid hc
    have PL : Hid ((flat4 qs).length = N * 4) := Lib.hid (by rw [flat4_len, HN.out, hf.1])
    have HF := Lib.hid hf
    have hq : ∀ w, (binOp .eql 29 (.slice (some g) N uk) (.slice none 0 0)).run Try.prog w = .ok (.bool false) w := fun w => Lib.run_eql_slice_some_nil w g N uk Try.underlying29
    have HS := Lib.hid hS
    clear h hx1 hf hc hS
    go_enter Try.func53, Try.ntmps53
    go_wp2_with (at_builtin; refine wpList_append_own _ rfl _ _ 29 rfl w.heap.size 53 i0 (.agg #[.int .i64 0, .int .i64 0, .string ⟨#[]⟩, .slice none 0 0]) 4 56 Try.underlying29 hi he.1 he.2.1 he.2.2 rfl (by decide) _ 0 [] rfl R0.out g N uk (flat4 qs) rfl PL.out RC.out (fun u hu => flat4_one HF.out hu) (by unfold maxLen; omega) (by omega) KA.out.size ?_; intro v' w2 hrow hgr _; obtain ⟨va2, vc2, rfl⟩ := row_form hrow)
    have HB : Hid (Below w.heap.size w w2) := Lib.hid (KA.out.grown hgr KA.out.size (fun g hg => (row_own R0.out hg).2.1))
    have HR : Hid (w2.ownsRow w.heap.size 53 4 (.slice va2 (0 + N) vc2) (0 + N) (flat4 qs)) := Lib.hid (by simpa using hrow)
    have HQ : Hid (Fits (QX S w2) l qs) := Lib.hid (HF.out.imp fun x q hx => hx.stay (fun _ h => h) fun b hb => (HB.out.block b (HS.out b hb)).trans (KA.out.block b (HS.out b hb)).symm)
    clear hrow hgr
    go_ret
    refine ⟨va2, vc2, qs, ?_, ?_, HQ.out, HB.out⟩
    · rw [← HN.out]; simp
    · have h := HR.out
      rw [Nat.zero_add] at h
      have e : N = qs.length := by rw [HN.out]; exact HQ.out.1
      rw [← HN.out]
      unfold Row4
      rw [← e]
      exact h
theorem yes_any (v : Vl) (w : World) : Calls Try.prog 43 #[vlV v] w fun e w' => e = .returned (.bool (v.kind == 2 && v.b)) ∧ Below w.heap.size w w' := by
  obtain ⟨k, n, b⟩ := v
  have HB := Lib.hid (three_made (.int .i64 k) (.int .i64 n) (.bool b) 99 w)
  obtain ⟨⟨r0, r1, r2⟩, p0, p1, p2⟩ := three_zero w (.int .i64 k) (.int .i64 n) (.bool b) 99
  have hun : undef = Value.tuple #[] := rfl
  cases hk : (k == 2) with
  | true =>
    go_enter Try.func43, Try.ntmps43
    go_wp2_with fail
    go_ret
    exact ⟨rfl, (HB.out _ rfl).1⟩
  | false =>
    go_enter Try.func43, Try.ntmps43
    go_wp2_with fail
    go_ret
    exact ⟨rfl, (HB.out _ rfl).1⟩
section
variable {B wb : Nat} {day : Int} {fa : Option Addr} {fc : Nat} {F : List Fx} {l : List Pp} {G : List Fw} {br : Bool} {pv gv : Value}
theorem Wk.cells (w : World) (h : Wk B wb day fa fc F l G br pv gv w) : w.cell? ⟨wb, 0, none⟩ = some (.int .i64 day) ∧ w.cell? ⟨wb, 1, none⟩ = some (.slice fa F.length fc) ∧ w.cell? ⟨wb, 2, none⟩ = some pv ∧ w.cell? ⟨wb, 3, none⟩ = some gv ∧ w.cell? ⟨wb, 4, none⟩ = some (.bool br) ∧ w.frozen? ⟨wb, 2, none⟩ = false ∧ w.frozen? ⟨wb, 3, none⟩ = false ∧ w.frozen? ⟨wb, 4, none⟩ = false :=
  ⟨cell_blk h.hd 0, cell_blk h.hd 1, cell_blk h.hd 2, cell_blk h.hd 3, cell_blk h.hd 4, free_blk h.hd 2, free_blk h.hd 3, free_blk h.hd 4⟩
/-- What changes no old block but the works' own, and there only what is broken. -/
theorem Wk.leap {w w' : World} {c : Bool} (h : Wk B wb day fa fc F l G br pv gv w) (k : Only [wb] w w') (hd : w'.heap[wb]? = some (.cells #[.int .i64 day, .slice fa F.length fc, pv, gv, .bool c] 67 (0, 0))) : Wk B wb day fa fc F l G c pv gv w' ∧ Fr wb pv gv pv gv w w' := by
  have kr : Fr wb pv gv pv gv w w' := ⟨k.mono (fun x hx => by rw [List.mem_singleton] at hx; rw [hx]; exact List.mem_cons_self), fun b h => .inl h, fun b h => .inl h⟩
  have hk : ∀ b, b < w.heap.size → b ≠ wb → w'.heap[b]? = w.heap[b]? := fun b hb hn => k.block b hb (fun hm => hn (List.mem_singleton.1 hm))
  exact ⟨⟨hd, h.hb, row_stay h.pr fun g hg => hk g (row_own h.pr hg).1 (h.pw hg), row_stay h.gr fun g hg => hk g (row_own h.gr hg).1 (h.gw hg), fun q hq => (h.ql q hq).stay (fun b hb => kr.away hb) (fun b hb => kr.keep hb), h.fx.stay (fun b hb => kr.away hb) (fun b hb => kr.keep hb)⟩, kr⟩
theorem number_any (n : Int) (ok : Bool) (w : World) (h : Wk B wb day fa fc F l G br pv gv w) : Calls Try.prog 36 #[.pointer (some ⟨wb, 0, none⟩), .int .i64 n, .bool ok] w fun e w' => e = .returned (.int .i64 n) ∧ w.setCell ⟨wb, 4, none⟩ (.bool (br || !ok)) = w' := by
  obtain ⟨_, _, _, _, c4, _, _, f4⟩ := h.cells
  have hun : undef = Value.tuple #[] := rfl
  clear h
  cases br with
  | true =>
    go_enter Try.func36, Try.ntmps36
    go_wp2_with fail
    go_ret
    exact ⟨rfl, rfl⟩
  | false =>
    go_enter Try.func36, Try.ntmps36
    go_wp2_with fail
    go_ret
    exact ⟨rfl, by first | rfl | simp⟩
theorem four_three (x0 x1 x2 x3 : Value) (w : World) : ∀ W, (w.alloc (.cells #[x0, x1, x2, x3] 53)).alloc (.cells #[.int .i64 0, .int .i64 0, .bool false] 99) = W → Below w.heap.size w W ∧ W.heap[w.heap.size]? = some (.cells #[x0, x1, x2, x3] 53 (0, 0)) ∧ W.heap[w.heap.size + 1]? = some (.cells #[.int .i64 0, .int .i64 0, .bool false] 99 (0, 0)) := by
  rintro W rfl
  obtain ⟨k1, b1, s1⟩ := four_boxed x0 x1 x2 x3 53 w _ rfl
  obtain ⟨k2, b2, s2⟩ := three_made (.int .i64 0) (.int .i64 0) (.bool false) 99 (w.alloc (.cells #[x0, x1, x2, x3] 53)) _ rfl
  exact ⟨below_mono k1 k2 (Nat.le_refl _), (k2.block _ (by omega)).trans b1, by rw [← s1]; exact b2⟩
set_option maxRecDepth 100000 in
set_option maxHeartbeats 8000000 in
theorem weval_any (x : Xp) (bo : Option Addr) (k : Nat) (v : Vl) (w : World) (h : Wk B wb day fa fc F l G false pv gv w) (hC : ∀ V, Below w.heap.size w V → Calls Try.prog 57 #[exV x bo k, .agg #[.int .i64 day, .slice fa F.length fc]] V fun e w' => e = .returned (vlV v) ∧ Below V.heap.size V w') :
    Calls Try.prog 44 #[.pointer (some ⟨wb, 0, none⟩), exV x bo k] w fun e w' => e = .returned (vlV v) ∧ Wk B wb day fa fc F l G (v.kind == 3) pv gv w' ∧ Fr wb pv gv pv gv w w' ∧ Only [wb] w w' := by
  obtain ⟨xo, hxo⟩ : ∃ r, r = x.op := ⟨_, rfl⟩
  obtain ⟨xn, hxn⟩ : ∃ r, r = x.n := ⟨_, rfl⟩
  obtain ⟨xs, hxs⟩ : ∃ r, r = x.nm := ⟨_, rfl⟩
  obtain ⟨xl, hxl⟩ : ∃ r, r = x.args.length := ⟨_, rfl⟩
  obtain ⟨fm, hfm⟩ : ∃ r, r = F.length := ⟨_, rfl⟩
  obtain ⟨r0, n0, t0⟩ := v
  have CE := Lib.hid hC
  rw [show exV x bo k = .agg #[.int .i64 xo, .int .i64 xn, .string xs, .slice bo xl k] from by rw [hxo, hxn, hxs, hxl]] at CE ⊢
  rw [← hfm] at CE
  have HW := Lib.hid h
  have GA := Lib.hid (four_three (.int .i64 xo) (.int .i64 xn) (.string xs) (.slice bo xl k) w)
  have HFM := Lib.hid hfm
  have hun : undef = Value.tuple #[] := rfl
  clear h hC hxo hxn hxs hxl hfm
  go_enter Try.func44, Try.ntmps44
  go_upto_region 1 with fail
  obtain ⟨W, hW⟩ : ∃ X, (w.alloc (.cells #[.int .i64 xo, .int .i64 xn, .string xs, .slice bo xl k] 53)).alloc (.cells #[.int .i64 0, .int .i64 0, .bool false] 99) = X := ⟨_, rfl⟩
  obtain ⟨g1, b1, b2⟩ := GA.out W hW
  obtain ⟨z, hz⟩ : ∃ z, z = w.heap.size := ⟨_, rfl⟩
  rw [hW, ← hz]
  rw [← hz] at b1 b2
  have HG := Lib.hid g1
  have HB1 := Lib.hid b1
  have HB2 := Lib.hid b2
  have HZ := Lib.hid hz
  have HWW := Lib.hid (HW.out.next g1)
  clear hW b1 b2 g1 GA hz
  have HSF : Hid (∀ V, Below W.heap.size W V → V.cell? ⟨z, 0, none⟩ = some (.int .i64 xo) ∧ V.cell? ⟨z, 1, none⟩ = some (.int .i64 xn) ∧ V.cell? ⟨z, 2, none⟩ = some (.string xs) ∧ V.cell? ⟨z, 3, none⟩ = some (.slice bo xl k) ∧ V.cell? ⟨wb, 0, none⟩ = some (.int .i64 day) ∧ V.cell? ⟨wb, 1, none⟩ = some (.slice fa fm fc)) := Lib.hid fun V hV => by
    have hb := (hV.block z (lt_of_heap HB1.out)).trans HB1.out
    have hh := (HWW.out.next hV).hd
    rw [← HFM.out] at hh
    exact ⟨cell_blk hb 0, cell_blk hb 1, cell_blk hb 2, cell_blk hb 3, cell_blk hh 0, cell_blk hh 1⟩
  obtain ⟨c0, c1, c2, c3, d0, d1⟩ := HSF.out W (Below.refl _ _)
  go_cut [5] (fun p wx => ∃ u : Nat, p = .pointer (some ⟨u, 0, none⟩) ∧ Hid (Below W.heap.size W wx ∧ W.heap.size ≤ u ∧ wx.heap[u]? = some (.cells #[.int .i64 r0, .int .i64 n0, .bool t0] 99 (0, 0))))
  case first =>
    have HBA : Hid (Below W.heap.size W (W.alloc (.cells #[.int .i64 0, .int .i64 0, .bool false] 99)).drew ∧ (W.alloc (.cells #[.int .i64 0, .int .i64 0, .bool false] 99)).drew.heap[W.heap.size]? = some (.cells #[.int .i64 0, .int .i64 0, .bool false] 99 (0, 0))) := Lib.hid ⟨((Below.refl _ _).alloc (Nat.le_refl _) _).drew, heap_alloc_new _ _⟩
    have HBD : Hid (Below W.heap.size W W.drew) := Lib.hid (Below.refl _ _).drew
    go_region_held3 (fun w' => w'.cell? ⟨z, 0, none⟩ = some (.int .i64 xo) ∧ w'.cell? ⟨z, 1, none⟩ = some (.int .i64 xn) ∧ w'.cell? ⟨z, 2, none⟩ = some (.string xs) ∧ w'.cell? ⟨z, 3, none⟩ = some (.slice bo xl k) ∧ w'.cell? ⟨wb, 0, none⟩ = some (.int .i64 day) ∧ w'.cell? ⟨wb, 1, none⟩ = some (.slice fa fm fc))
      (first | exact HSF.out _ HB4.out | exact HSF.out _ (below_mono HB4.out ((Below.refl _ _).alloc (Nat.le_refl _) _) (Nat.le_refl _)) | exact HSF.out _ (((HB4.out.setCell (p := ⟨W.heap.size, 0, none⟩) (Nat.le_refl _) _).setCell (p := ⟨W.heap.size, 1, none⟩) (Nat.le_refl _) _).setCell (p := ⟨W.heap.size, 2, none⟩) (Nat.le_refl _) _) | (go_keep; done))
      (first
        | (go_at_call 57; (with_reducible refine (CE.out _ (below_mono HG.out HBD.out (Nat.le_refl _))).mono ?_); rintro e w4 ⟨rfl, hb⟩; have HB4 := Lib.hid (HBD.out.trans hb); clear hb; obtain ⟨⟨n0', n1', n2'⟩, p0, p1, p2⟩ := three_zero w4 (.int .i64 0) (.int .i64 0) (.bool false) 99)
        | (go_at_call 57; (with_reducible refine (CE.out _ (below_mono HG.out HBA.out.1 (Nat.le_refl _))).mono ?_); rintro e w4 ⟨rfl, hb⟩; have HB4 := Lib.hid (HBA.out.1.trans (hb.mono (by simp))); have HX4 := Lib.hid ((hb.block _ (by simp)).trans HBA.out.2); obtain ⟨n0', n1', n2'⟩ := trio HX4.out; have p0 : w4.frozen? ⟨W.heap.size, 0, none⟩ = false := free_blk HX4.out 0; have p1 : w4.frozen? ⟨W.heap.size, 1, none⟩ = false := free_blk HX4.out 1; have p2 : w4.frozen? ⟨W.heap.size, 2, none⟩ = false := free_blk HX4.out 2; clear hb))
    · go_wp2_with fail
      go_meet
      exact ⟨w4.heap.size, rfl, Lib.hid ⟨below_mono HB4.out ((Below.refl _ _).alloc (Nat.le_refl _) _) (Nat.le_refl _), HB4.out.size, heap_alloc_new _ _⟩⟩
    · go_wp2_with fail
      go_meet
      obtain ⟨k9, _, _, x9⟩ := three_set w4 W.heap.size (.int .i64 r0) (.int .i64 n0) (.bool t0) _ _ ⟨_, _, _, rfl⟩ HX4.out _ rfl
      exact ⟨W.heap.size, rfl, Lib.hid ⟨HB4.out.trans k9, Nat.le_refl _, x9⟩⟩
  case rest =>
    obtain ⟨u, rfl, HU⟩ := hcut
    clear c0 c1 c2 c3 d0 d1
    have HXU := Lib.hid HU.out.2.2
    obtain ⟨k0, k1, k2⟩ := trio HXU.out
    have HW2 := Lib.hid (HWW.out.next HU.out.1)
    have HR2 : Hid (wc.heap[z + 1]? = some (.cells #[.int .i64 0, .int .i64 0, .bool false] 99 (0, 0))) := Lib.hid ((HU.out.1.block _ (lt_of_heap HB2.out)).trans HB2.out)
    obtain ⟨_, _, _, _, c4, _, _, f4⟩ := HW2.out.cells
    obtain ⟨m0, m1, m2⟩ := trio HR2.out
    have q0 := free_blk HR2.out 0
    have q1 := free_blk HR2.out 1
    have q2 := free_blk HR2.out 2
    go_wp2_with fail
    obtain ⟨W9, hW9⟩ : ∃ X, ((((wc.setCell ⟨wb, 4, none⟩ (.bool (r0 == 3))).setCell ⟨z + 1, 0, none⟩ (.int .i64 r0)).setCell ⟨z + 1, 1, none⟩ (.int .i64 n0)).setCell ⟨z + 1, 2, none⟩ (.bool t0)) = X := ⟨_, rfl⟩
    have x9 : W9.heap[z + 1]? = some (.cells #[.int .i64 r0, .int .i64 n0, .bool t0] 99 (0, 0)) := by
      rw [← hW9]
      exact heap_set_at (i := 2) _ (heap_set_at (i := 1) _ (heap_set_at (i := 0) _ ((Below.heap_setCell _ _ _ _ (by have := HW.out.lt; have := HZ.out; show z + 1 ≠ wb; omega)).trans HR2.out)))
    have y9 : W9.heap[wb]? = some (.cells #[.int .i64 day, .slice fa F.length fc, pv, gv, .bool (r0 == 3)] 67 (0, 0)) := by
      rw [← hW9]
      have hne : wb ≠ z + 1 := by have := HW.out.lt; have := HZ.out; omega
      rw [Below.heap_setCell _ _ _ _ hne, Below.heap_setCell _ _ _ _ hne, Below.heap_setCell _ _ _ _ hne]
      exact heap_set_at (i := 4) _ HW2.out.hd
    have k9 : Only [wb] w W9 := by
      rw [← hW9]
      have hz1 : w.heap.size ≤ z + 1 := by have := HZ.out; omega
      exact ((((only_of (below_mono HG.out HU.out.1 (Nat.le_refl _)) [wb]).set (a := ⟨wb, 4, none⟩) (.inl (by simp)) _).set (a := ⟨z + 1, 0, none⟩) (.inr hz1) _).set (a := ⟨z + 1, 1, none⟩) (.inr hz1) _).set (a := ⟨z + 1, 2, none⟩) (.inr hz1) _
    rw [hW9]
    obtain ⟨e0, e1, e2⟩ := trio x9
    have hfin := HW.out.leap k9 y9
    exact bodyPost_ret (v := .agg #[.int .i64 r0, .int .i64 n0, .bool t0]) (by simp [results, Try.results44, go_sem, e0, e1, e2]) rfl ⟨rfl, hfin.1, hfin.2, k9⟩
end
end Go.Proofs.Ythhimllddgfddaa
namespace Go.Proofs.Ythhimllddgfddaa
open Go.ChangeShapes Go.WideShapes Go.RowKit Go.Deep Go.WideElems Go.Maps
set_option linter.unusedVariables false
set_option linter.unusedSimpArgs false
abbrev ptV (q : Pp) : Value := .agg #[.int .i64 q.p.f, .bool q.p.tn, .slice q.uo q.p.un.length q.uk, .int .i64 q.p.t.op, .string q.p.t.nm, .slice q.eo q.p.t.exprs.length q.ek, .slice q.tb q.p.t.terms.length q.tk]
theorem seven_made (v0 v1 v2 v3 v4 v5 v6 : Value) (T : TypeId) (w : World) : ∀ W, w.alloc (.cells #[v0, v1, v2, v3, v4, v5, v6] T) = W → Below w.heap.size w W ∧ W.heap[w.heap.size]? = some (.cells #[v0, v1, v2, v3, v4, v5, v6] T (0, 0)) ∧ W.heap.size = w.heap.size + 1 := by
  rintro W rfl
  exact ⟨(Below.refl _ _).alloc (Nat.le_refl _) _, heap_alloc_new w _, by simp⟩
theorem seven {w : World} {k : Nat} {c0 c1 c2 c3 c4 c5 c6 : Value} {t : TypeId} (h : w.heap[k]? = some (.cells #[c0, c1, c2, c3, c4, c5, c6] t (0, 0))) : w.cell? ⟨k, 0, none⟩ = some c0 ∧ w.cell? ⟨k, 1, none⟩ = some c1 ∧ w.cell? ⟨k, 2, none⟩ = some c2 ∧ w.cell? ⟨k, 3, none⟩ = some c3 ∧ w.cell? ⟨k, 4, none⟩ = some c4 ∧ w.cell? ⟨k, 5, none⟩ = some c5 ∧ w.cell? ⟨k, 6, none⟩ = some c6 :=
  ⟨cell_blk h 0, cell_blk h 1, cell_blk h 2, cell_blk h 3, cell_blk h 4, cell_blk h 5, cell_blk h 6⟩
section
variable {B wb : Nat} {day : Int} {fa : Option Addr} {fc : Nat} {F : List Fx} {l : List Pp} {G : List Fw} {br : Bool} {pv gv : Value}
theorem Away.new {w : World} (h : Wk B wb day fa fc F l G br pv gv w) {w' : World} {b : Nat} (hb : w.heap.size ≤ b) (hl : b < w'.heap.size) : Away wb pv gv w' b :=
  ⟨hl, fun e => by have := h.lt; omega, fun e => by have := (row_own h.pr e).1; omega, fun e => by have := (row_own h.gr e).1; omega⟩
set_option maxRecDepth 100000 in
set_option maxHeartbeats 8000000 in
theorem stay_any (q : Pp) (w : World) (h : Wk B wb day fa fc F l G br pv gv w) (hq : QP (Away wb pv gv w) w q) (hl : l.length ≤ 900) (hu : q.p.un.length ≤ 900) :
    Calls Try.prog 40 #[.pointer (some ⟨wb, 0, none⟩), ptV q] w fun e w' => e = .returned (.tuple #[]) ∧ ∃ l' pv', l'.map (·.p) = l.map (·.p) ++ [q.p] ∧ Wk B wb day fa fc F l' G br pv' gv w' ∧ Fr wb pv gv pv' gv w w' := by
  obtain ⟨⟨f, tn, un, t⟩, uo, uk, eo, ek, tb, tk⟩ := q
  obtain ⟨um, hum⟩ : ∃ r, r = un.length := ⟨_, rfl⟩
  obtain ⟨op, hop⟩ : ∃ r, r = t.op := ⟨_, rfl⟩
  obtain ⟨nm, hnm⟩ : ∃ r, r = t.nm := ⟨_, rfl⟩
  obtain ⟨em, hem⟩ : ∃ r, r = t.exprs.length := ⟨_, rfl⟩
  obtain ⟨tm, htm⟩ : ∃ r, r = t.terms.length := ⟨_, rfl⟩
  have HL := Lib.hid (And.intro hum (And.intro hop (And.intro hnm (And.intro hem (And.intro htm hl)))))
  rw [show ptV ⟨⟨f, tn, un, t⟩, uo, uk, eo, ek, tb, tk⟩ = .agg #[.int .i64 f, .bool tn, .slice uo um uk, .int .i64 op, .string nm, .slice eo em ek, .slice tb tm tk] from by rw [hum, hop, hnm, hem, htm]]
  have HW := Lib.hid h
  have HQ := Lib.hid hq
  have hS : ∀ b, Away wb pv gv w b → b < w.heap.size := fun b hb => hb.1
  have CC : Hid (∀ V, Below w.heap.size w V → Calls Try.prog 53 #[.slice uo um uk] V (ClX (Away wb pv gv w) un V)) := Lib.hid fun V hV => by
    rw [hum]
    exact clone_ex V (hq.un.stay (fun _ h => h) fun b hb => hV.block b (hS b hb)) (fun b hb => Nat.lt_of_lt_of_le (hS b hb) hV.size) (by have : un.length ≤ 900 := hu; omega)
  have GA := Lib.hid (seven_made (.int .i64 f) (.bool tn) (.slice uo um uk) (.int .i64 op) (.string nm) (.slice eo em ek) (.slice tb tm tk) 70 w)
  clear h hq hS hum hop hnm hem htm hl hu
  go_enter Try.func40, Try.ntmps40
  go_upto_region 1 with fail
  obtain ⟨W, hW⟩ : ∃ X, w.alloc (.cells #[.int .i64 f, .bool tn, .slice uo um uk, .int .i64 op, .string nm, .slice eo em ek, .slice tb tm tk] 70) = X := ⟨_, rfl⟩
  obtain ⟨g1, b1, s1⟩ := GA.out W hW
  obtain ⟨z, hz⟩ : ∃ z, z = w.heap.size := ⟨_, rfl⟩
  rw [hW, ← hz]
  rw [← hz] at b1
  have HG := Lib.hid g1
  have HB1 := Lib.hid b1
  have HZ := Lib.hid hz
  have c2 : W.cell? ⟨z, 2, none⟩ = some (.slice uo um uk) := cell_blk b1 2
  clear hW b1 g1 GA hz s1
  go_upto_region 2 with (go_at_call 53; (with_reducible refine (CC.out _ HG.out).mono ?_); rintro e w5 ⟨va, vc, qs, he, hr, hf, hb⟩; obtain rfl : e = Ending.returned (.slice va um vc) := (by rw [he, HL.out.1]); have HR5 := Lib.hid hr; have HF5 := Lib.hid hf; have HB5 := Lib.hid hb; have HX5 := Lib.hid ((hb.block z (lt_of_heap HB1.out)).trans HB1.out); clear he hr hf hb c2; have c2 : w5.cell? ⟨z, 2, none⟩ = some (.slice uo um uk) := cell_blk HX5.out 2; have f2 : w5.frozen? ⟨z, 2, none⟩ = false := free_blk HX5.out 2)
  clear c2 f2
  obtain ⟨W6, hW6⟩ : ∃ X, w5.setCell ⟨z, 2, none⟩ (.slice va um vc) = X := ⟨_, rfl⟩
  have x6 : W6.heap[z]? = some (.cells #[.int .i64 f, .bool tn, .slice va um vc, .int .i64 op, .string nm, .slice eo em ek, .slice tb tm tk] 70 (0, 0)) := by rw [← hW6]; exact heap_set_at (i := 2) _ HX5.out
  have k6 : Below w.heap.size w W6 := by rw [← hW6]; exact (below_mono HG.out HB5.out (Nat.le_refl _)).setCell (p := ⟨z, 2, none⟩) (by rw [← HZ.out]; exact Nat.le_refl _) _
  have o6 : ∀ b, b ≠ z → W6.heap[b]? = w5.heap[b]? := fun b hb => by rw [← hW6]; exact Below.heap_setCell _ _ _ _ hb
  have s6 : W6.heap.size = w5.heap.size := by rw [← hW6]; simp
  rw [hW6]
  have HK6 := Lib.hid k6
  have HW6 := Lib.hid (HW.out.next k6)
  have HQ6 : Hid (QP (Away wb pv gv W6) W6 ⟨⟨f, tn, un, t⟩, va, vc, eo, ek, tb, tk⟩) := Lib.hid (by
    have hform : un.length ≤ vc := by
      obtain ⟨a, c, e, hc⟩ := HR5.out.form
      injection e with _ _ e3
      rw [e3, HF5.out.1]; exact hc
    have hx := HR5.out.toX HF5.out
    refine ⟨hform, hx.stay (fun b hb => ?_) (fun b hb => ?_), HQ.out.tr.stay (fun b hb => (Fr.of (wb := wb) (pv := pv) (gv := gv) k6).away hb) (fun b hb => k6.block b hb.1)⟩
    · rcases hb with hb | hb
      · exact (Fr.of (wb := wb) (pv := pv) (gv := gv) k6).away hb
      · have h1 := HR5.out.lt hb
        have h2 := HG.out.size
        exact Away.new HW.out (by omega) (by rw [s6]; exact h1.1)
    · rcases hb with hb | hb
      · exact o6 b (by have := hb.1; have := HZ.out; omega)
      · have h1 := HR5.out.lt hb
        have h2 := lt_of_heap HB1.out
        exact o6 b (by omega))
  obtain ⟨d0, d1, d2, d3, d4, d5, d6⟩ := seven x6
  obtain ⟨_, _, c2, _, _, f2, _, _⟩ := HW6.out.cells
  have kA := (Below.refl W6.heap.size W6).alloc (Nat.le_refl _) (.cells #[.int .i64 f, .bool tn, .slice va um vc, .int .i64 op, .string nm, .slice eo em ek, .slice tb tm tk] 70)
  have HKA := Lib.hid kA.drew
  have HPA := Lib.hid (HW6.out.next kA.drew)
  have HQA := Lib.hid (HQ6.out.stay (fun b hb => (Fr.of (wb := wb) (pv := pv) (gv := gv) kA.drew).away hb) (fun b hb => kA.drew.block b hb.1))
  have HXA : Hid ((W6.alloc (.cells #[.int .i64 f, .bool tn, .slice va um vc, .int .i64 op, .string nm, .slice eo em ek, .slice tb tm tk] 70)).drew.heap[W6.heap.size]? = some (.cells #[.int .i64 f, .bool tn, .slice va un.length vc, .int .i64 t.op, .string t.nm, .slice eo t.exprs.length ek, .slice tb t.terms.length tk] 70 (0, 0))) := Lib.hid (by
    obtain ⟨hum, hop, hnm, hem, htm, _⟩ := HL.out
    rw [← hum, ← hop, ← hnm, ← hem, ← htm]
    exact heap_alloc_new W6 _)
  have c2a : (W6.alloc (.cells #[.int .i64 f, .bool tn, .slice va um vc, .int .i64 op, .string nm, .slice eo em ek, .slice tb tm tk] 70)).cell? ⟨wb, 2, none⟩ = some pv := cell_blk (HW6.out.next kA).hd 2
  clear x6 k6 o6 s6 hW6 kA
  go_region_law (refine step_appPt rfl _ _ rfl B pv l rfl HPA.out.pr W6.heap.size ⟨⟨f, tn, un, t⟩, va, vc, eo, ek, tb, tk⟩ rfl HXA.out (by have := HL.out.2.2.2.2.2; omega) (Nat.le_trans HPA.out.hb (Nat.le_of_lt HPA.out.lt)) ?_; intro v' w8 hown hgr hor; obtain ⟨va8, vc8, rfl⟩ := row_form hown; have HO8 := Lib.hid hown; have HG8 := Lib.hid hgr; have HR8 := Lib.hid hor; have HX8 := Lib.hid ((hgr.block wb HPA.out.lt (fun e => HPA.out.pw e.symm rfl)).trans HPA.out.hd); have e8 : w8.cell? ⟨wb, 2, none⟩ = some pv := cell_blk HX8.out 2; have f8 : w8.frozen? ⟨wb, 2, none⟩ = false := free_blk HX8.out 2; clear hown hgr hor)
  all_goals
    go_wp2_with fail
    go_end0
    have hfin := HW6.out.part HKA.out HO8.out HG8.out HR8.out HQA.out
    have hlen : (l ++ [(⟨⟨f, tn, un, t⟩, va, vc, eo, ek, tb, tk⟩ : Pp)]).length = l.length + 1 := by simp
    rw [hlen] at hfin
    exact ⟨rfl, l ++ [⟨⟨f, tn, un, t⟩, va, vc, eo, ek, tb, tk⟩], _, by simp, hfin.1, (Fr.of HK6.out).trans hfin.2⟩
theorem end_yes (w : World) (h : Wk B wb day fa fc F l G true pv gv w) : Calls Try.prog 22 #[.pointer (some ⟨wb, 0, none⟩)] w fun e w' => e = .returned (.tuple #[.slice none 0 0, .slice none 0 0, .int .i64 2]) ∧ Below w.heap.size w w' := by
  obtain ⟨_, _, c2, c3, c4, _, _, _⟩ := h.cells
  have HB := Lib.hid (Below.refl w.heap.size w)
  clear h
  go_enter Try.func22, Try.ntmps22
  go_wp2_with fail
  exact bodyPost_ret (v := .tuple #[.slice none 0 0, .slice none 0 0, .int .i64 2]) (by simp [results, Try.results22, go_sem]) rfl ⟨rfl, HB.out⟩
theorem end_no (w : World) (h : Wk B wb day fa fc F l G false pv gv w) : Calls Try.prog 22 #[.pointer (some ⟨wb, 0, none⟩)] w fun e w' => e = .returned (.tuple #[pv, gv, .int .i64 0]) ∧ Below w.heap.size w w' := by
  obtain ⟨_, _, c2, c3, c4, _, _, _⟩ := h.cells
  have HB := Lib.hid (Below.refl w.heap.size w)
  clear h
  go_enter Try.func22, Try.ntmps22
  go_upto_region 3 with fail
  go_region_with (fail)
  all_goals
    go_wp2_with fail
    exact bodyPost_ret (v := .tuple #[pv, gv, .int .i64 0]) (by simp [results, Try.results22, go_sem]) rfl ⟨rfl, HB.out.drew⟩
end
end Go.Proofs.Ythhimllddgfddaa
/-
  DERIVED: THE SHELF's CONTRACTS AT THIS DUMP, IN PLAIN WORDS (tools/lay-plain.mjs out of 'TryShelf.lean', which tools/lay-shelf.mjs wrote): THE SAME DECLARATIONS UNDER THE SAME NAMES: 'import', 'namespace', 'open', 'def', 'theorem' AND NOTHING ELSE: no command of the shelf's: FOR A HAND-IN. Each laying: the table of numbers ('.._ren') and one theorem, a field a fact of the dump's own or the kernel's comparison; each contract: ONE APPLICATION.
-/
namespace Go.Proofs
open Go.Shelf
def Try.lays134_ren : Go.Shelf.Ren := ⟨fun | 134 => 86 | 129 => 87 | n => n, fun | 53 => 113 | 3 => 3 | 4 => 4 | 46 => 103 | 5 => 5 | 9 => 9 | n => n, fun | n => n⟩
theorem Try.lays134 : Go.Proofs.Lays.n134 Try.prog Try.lays134_ren := {
  mixed := by kernel_rfl
  f129 := Try.func87.trans (congrArg some (by kernel_rfl))
  f134 := Try.func86.trans (congrArg some (by kernel_rfl))
  t3 := Try.underlying3
  a3 := Try.isAgg3
  z3 := Try.sizeOf3
  v3 := Try.zeroValue3
  t4 := Try.underlying4
  a4 := Try.isAgg4
  z4 := Try.sizeOf4
  v4 := Try.zeroValue4
  t5 := Try.underlying5
  a5 := Try.isAgg5
  z5 := Try.sizeOf5
  v5 := Try.zeroValue5
  t9 := Try.underlying9
  a9 := Try.isAgg9
  z9 := Try.sizeOf9
  v9 := Try.zeroValue9
  t46 := Try.underlying103
  a46 := Try.isAgg103
  z46 := Try.sizeOf103
  v46 := Try.zeroValue103
  t53 := Try.underlying113
  a53 := Try.isAgg113
  z53 := Try.sizeOf113
  v53 := Try.zeroValue113 }
/-- bits.LeadingZeros64: "LeadingZeros64 returns the number of leading zero bits in x; the result is 64 for x == 0.": IT RETURNS '64 - Lib.bitLen x'; the world is as it was. ITS CALLEE bits.Len64 IS MET BY ITS OWN CONTRACT OFF THE SHELF (lay that first): entered in place it sends the kernel out of memory. (LAID: no walk: one application.) -/
theorem Try.bits_LeadingZeros64 (x : Int) (w : World) (h0 : 0 ≤ x) (h1 : x ≤ 18446744073709551615) :
    Calls Try.prog 86 #[.int .u64 x] w fun e w' => e = .returned (.int .i64 (64 - (Lib.bitLen x.toNat : Int))) ∧ w' = w := Any.bits_LeadingZeros64 Try.lays134 x w h0 h1
def Try.lays264_ren : Go.Shelf.Ren := ⟨fun | 264 => 63 | n => n, fun | 53 => 113 | 46 => 103 | n => n, fun | n => n⟩
theorem Try.lays264 : Go.Proofs.Lays.n264 Try.prog Try.lays264_ren := {
  mixed := by kernel_rfl
  f264 := Try.func63.trans (congrArg some (by kernel_rfl))
  t46 := Try.underlying103
  a46 := Try.isAgg103
  z46 := Try.sizeOf103
  v46 := Try.zeroValue103
  t53 := Try.underlying113
  a53 := Try.isAgg113
  z53 := Try.sizeOf113
  v53 := Try.zeroValue113 }
open Go.RowKit Go.Lib in
theorem Try.bits_Mul64 (x y : Nat) (hx : x < 18446744073709551616) (hy : y < 18446744073709551616) (w : World) :
    Calls Try.prog 63 #[.int .u64 x, .int .u64 y] w fun e w' => e = .returned (.tuple #[.int .u64 ((x * y / 18446744073709551616 : Nat) : Int), .int .u64 ((x * y % 18446744073709551616 : Nat) : Int)]) ∧ w' = w := Any.bits_Mul64 Try.lays264 x y hx hy w
end Go.Proofs
