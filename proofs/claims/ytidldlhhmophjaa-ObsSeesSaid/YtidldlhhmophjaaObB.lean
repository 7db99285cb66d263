/- Layer 22: what an expression is, by the program. Conditions: those written at each theorem. -/
import Derived.Test.YtidldlhhmophjaaObA
import Derived.Test.YtidldlhhmophjaaCkC
import Derived.Deep.RegionHeld3
import Derived.Lib.QuietBelow
import Derived.BigQuiet
namespace Go.Proofs.Ytidldlhhmophjaa
open Go.RowKit Go.PlainAid Go.Sort
set_option linter.unusedVariables false
set_option linter.unusedSimpArgs false
/-- A value. -/
structure Vl where
  kind : Int
  n : Int
  b : Bool
abbrev vlV (v : Vl) : Value := .agg #[.int .i64 v.kind, .int .i64 v.n, .bool v.b]
def numV (n : Int) : Vl := ⟨1, n, false⟩
def truV (b : Bool) : Vl := ⟨2, 0, b⟩
def brkV : Vl := ⟨3, 0, false⟩
def unkV : Vl := ⟨0, 0, false⟩
def okV (n : Int) : Vl := if -9223372036854775808 ≤ n ∧ n ≤ 9223372036854775807 then numV n else brkV
/-- What an op makes of numbers. -/
def wkV (o a b : Int) : Vl :=
  if o = 5 then okV (a + b)
  else if o = 6 then okV (a - b)
  else if o = 7 then okV (a * b)
  else if o = 8 then (if b = 0 then brkV else okV (a.fdiv b))
  else if o = 9 then numV (min a b)
  else if o = 10 then numV (max a b)
  else if o = 20 then okV (-a)
  else if o = 11 then truV (decide (a < b))
  else if o = 12 then truV (decide (a ≤ b))
  else if o = 13 then truV (decide (a = b))
  else if o = 14 then truV (decide (a ≠ b))
  else if o = 15 then truV (decide (b ≤ a))
  else truV (decide (b < a))
def isT (v : Vl) (d : Bool) : Bool := v.kind == 2 && (v.n == 0 && v.b == d)
def jnV (d : Bool) (a b : Vl) : Vl := if decide (a.kind = 3) || isT a d then a else if (decide (a.kind = 2) || decide (b.kind = 3)) || isT b d then b else unkV
def chV (a b c : Vl) : Vl := if a.kind = 2 then (if a.b = true then b else c) else a
def plV (o : Int) (a b : Vl) : Vl := if a.kind = 3 ∨ b.kind = 3 then brkV else if a.kind = 0 ∨ b.kind = 0 then unkV else if o = 19 then truV (!a.b) else wkV o a.n b.n
def evN (sn : ByteArray → Option Fx) (day o n : Int) (s : ByteArray) (vs : List Vl) : Vl :=
  if o = 1 ∨ o = 2 then numV n
  else if o = 4 then numV day
  else if o = 3 then (match sn s with | some f => numV f.val | none => unkV)
  else match vs with
    | [a] => plV o a a
    | [a, b] => if o = 17 then jnV false a b else if o = 18 then jnV true a b else plV o a b
    | [a, b, c] => chV a b c
    | _ => unkV
def Xp.ev (sn : ByteArray → Option Fx) (day : Int) : Xp → Vl
  | .mk o n s l => evN sn day o n s (evs l)
where evs : List Xp → List Vl
  | [] => []
  | x :: t => x.ev sn day :: evs t
theorem evs_map (sn : ByteArray → Option Fx) (day : Int) (l : List Xp) : Xp.ev.evs sn day l = l.map (Xp.ev sn day) := by
  induction l with
  | nil => rfl
  | cons x t ih => simp [Xp.ev.evs, ih]
theorem Xp.ev_eq (sn : ByteArray → Option Fx) (day : Int) (x : Xp) : x.ev sn day = evN sn day x.op x.n x.nm (x.args.map (Xp.ev sn day)) := by cases x; simp [Xp.ev, evs_map, Xp.op, Xp.args, Xp.n, Xp.nm]
theorem eq_vl (k n k' n' : Int) (b b' : Bool) (W : World) : (Op.equalIn 10000 73 (.agg #[.int .i64 k, .int .i64 n, .bool b]) (.agg #[.int .i64 k', .int .i64 n', .bool b'])).run Try.prog W = .ok (k == k' && (n == n' && (b == b'))) W := by
  cases h1 : (k == k') <;> cases h2 : (n == n') <;> cases h3 : (b == b') <;> simp [go_sem, h1, h2, h3]
theorem cells_val : Try.prog.cellsOf 73 = 3 := by kernel_rfl
theorem three_set (wr : World) (rb : Nat) (x0 x1 x2 : Value) (o : Array Value) (T : TypeId) (ho : ∃ y0 y1 y2, o = #[y0, y1, y2]) (hb : wr.heap[rb]? = some (.cells o T (0, 0))) : ∀ W, (((wr.setCell ⟨rb, 0, none⟩ x0).setCell ⟨rb, 1, none⟩ x1).setCell ⟨rb, 2, none⟩ x2) = W → Below rb wr W ∧ (∀ b, b ≠ rb → W.heap[b]? = wr.heap[b]?) ∧ W.heap.size = wr.heap.size ∧ W.heap[rb]? = some (.cells #[x0, x1, x2] T (0, 0)) := by
  rintro W rfl
  obtain ⟨y0, y1, y2, rfl⟩ := ho
  refine ⟨?_, fun b hb => ?_, by simp, ?_⟩
  · exact (((Below.refl rb wr).setCell (p := ⟨rb, 0, none⟩) (Nat.le_refl _) _).setCell (p := ⟨rb, 1, none⟩) (Nat.le_refl _) _).setCell (p := ⟨rb, 2, none⟩) (Nat.le_refl _) _
  · exact (Below.heap_setCell _ _ _ _ hb).trans ((Below.heap_setCell _ _ _ _ hb).trans (Below.heap_setCell _ _ _ _ hb))
  · have q0 := heap_set_at (i := 0) x0 hb
    have q1 := heap_set_at (i := 1) x1 q0
    exact heap_set_at (i := 2) x2 q1
set_option maxRecDepth 100000 in
set_option maxHeartbeats 4000000 in
theorem number_yes (n : Int) (w : World) : Calls Try.prog 89 #[.int .i64 n, .bool true] w fun e w' => e = .returned (vlV (numV n)) ∧ Below w.heap.size w w' := by
  obtain ⟨⟨r0, r1, r2⟩, p0, p1, p2⟩ := three_zero w (.int .i64 0) (.int .i64 0) (.bool false) 73
  have HF := Lib.hid (three_made (.int .i64 1) (.int .i64 n) (.bool false) 73 w)
  go_enter Try.func89, Try.ntmps89
  go_wp2_with fail
  clear r0 r1 r2 p0 p1 p2
  obtain ⟨W, hW⟩ : ∃ X, w.alloc (.cells #[.int .i64 1, .int .i64 n, .bool false] 73) = X := ⟨_, rfl⟩
  obtain ⟨k, b, s⟩ := HF.out W hW
  rw [hW]
  obtain ⟨d0, d1, d2⟩ := trio b
  exact bodyPost_ret (v := vlV (numV n)) (by simp [results, Try.results89, go_sem, d0, d1, d2, numV]) rfl ⟨rfl, k⟩
set_option maxRecDepth 100000 in
set_option maxHeartbeats 4000000 in
theorem truth_any (t : Bool) (w : World) : Calls Try.prog 92 #[.bool t] w fun e w' => e = .returned (vlV (truV t)) ∧ Below w.heap.size w w' := by
  obtain ⟨⟨r0, r1, r2⟩, p0, p1, p2⟩ := three_zero w (.int .i64 0) (.int .i64 0) (.bool false) 73
  have HF := Lib.hid (three_made (.int .i64 2) (.int .i64 0) (.bool t) 73 w)
  go_enter Try.func92, Try.ntmps92
  go_wp2_with fail
  clear r0 r1 r2 p0 p1 p2
  obtain ⟨W, hW⟩ : ∃ X, w.alloc (.cells #[.int .i64 2, .int .i64 0, .bool t] 73) = X := ⟨_, rfl⟩
  obtain ⟨k, b, s⟩ := HF.out W hW
  rw [hW]
  obtain ⟨d0, d1, d2⟩ := trio b
  exact bodyPost_ret (v := vlV (truV t)) (by simp [results, Try.results92, go_sem, d0, d1, d2, truV]) rfl ⟨rfl, k⟩
theorem four_boxed (v0 v1 v2 v3 : Value) (T : TypeId) (w : World) : ∀ W, w.alloc (.cells #[v0, v1, v2, v3] T) = W → Below w.heap.size w W ∧ W.heap[w.heap.size]? = some (.cells #[v0, v1, v2, v3] T (0, 0)) ∧ W.heap.size = w.heap.size + 1 := by
  rintro W rfl
  exact ⟨(Below.refl w.heap.size w).alloc (Nat.le_refl _) _, heap_alloc_new w _, by simp⟩
/-- An expression, an environment and a value, each in a box. -/
theorem entry_made (x0 x1 x2 x3 e0 e1 : Value) (w : World) : ∀ W, ((w.alloc (.cells #[x0, x1, x2, x3] 34)).alloc (.cells #[e0, e1] 63)).alloc (.cells #[.int .i64 0, .int .i64 0, .bool false] 73) = W → Below w.heap.size w W ∧ W.heap[w.heap.size]? = some (.cells #[x0, x1, x2, x3] 34 (0, 0)) ∧ W.heap[w.heap.size + 1]? = some (.cells #[e0, e1] 63 (0, 0)) ∧ W.heap[w.heap.size + 1 + 1]? = some (.cells #[.int .i64 0, .int .i64 0, .bool false] 73 (0, 0)) := by
  rintro W rfl
  obtain ⟨k1, b1, s1⟩ := four_boxed x0 x1 x2 x3 34 w _ rfl
  obtain ⟨k2, b2, s2⟩ := two_made e0 e1 63 (w.alloc (.cells #[x0, x1, x2, x3] 34)) _ rfl
  obtain ⟨k3, b3, s3⟩ := three_made (.int .i64 0) (.int .i64 0) (.bool false) 73 ((w.alloc (.cells #[x0, x1, x2, x3] 34)).alloc (.cells #[e0, e1] 63)) _ rfl
  refine ⟨below_mono (below_mono k1 k2 (Nat.le_refl _)) k3 (Nat.le_refl _), (k3.block _ (by omega)).trans ((k2.block _ (by omega)).trans b1), (k3.block _ (by omega)).trans ?_, ?_⟩
  · rw [← s1]; exact b2
  · rw [show w.heap.size + 1 + 1 = ((w.alloc (.cells #[x0, x1, x2, x3] 34)).alloc (.cells #[e0, e1] 63)).heap.size from by omega]; exact b3
/-- The three boxes of a walk. -/
structure EvB (z : Nat) (xv : Array Value) (ev : Array Value) (w W : World) : Prop where
  bel : Below w.heap.size w W
  ex : W.heap[z]? = some (.cells xv 34 (0, 0))
  en : W.heap[z + 1]? = some (.cells ev 63 (0, 0))
  va : W.heap[z + 1 + 1]? = some (.cells #[.int .i64 0, .int .i64 0, .bool false] 73 (0, 0))
  le : w.heap.size ≤ z
theorem EvB.next {z : Nat} {xv ev : Array Value} {w W V : World} (h : EvB z xv ev w W) (k : Below W.heap.size W V) : EvB z xv ev w V :=
  ⟨below_mono h.bel k (Nat.le_refl _), (k.block _ (lt_of_heap h.ex)).trans h.ex, (k.block _ (lt_of_heap h.en)).trans h.en, (k.block _ (lt_of_heap h.va)).trans h.va, h.le⟩
set_option maxRecDepth 100000 in
set_option maxHeartbeats 8000000 in
theorem joined_any {xo xn : Int} {xs : ByteArray} {a : Addr} {k : Nat} {day : Int} {fa : Option Addr} {fm fc : Nat} (d : Bool) (v0 v1 : Vl) (w : World) {yo yn : Int} {ys : ByteArray} {co : Option Addr} {cm ck : Nat} {zo zn : Int} {zs : ByteArray} {co1 : Option Addr} {dm ck1 : Nat} (ha : a.block < w.heap.size) (hk : 2 ≤ k)
    (hf0 : FourX w a (.int .i64 yo) (.int .i64 yn) (.string ys) (.slice co cm ck)) (hf1 : FourX w ⟨a.block, a.off + 4, none⟩ (.int .i64 zo) (.int .i64 zn) (.string zs) (.slice co1 dm ck1))
    (h0 : ∀ V, Below w.heap.size w V → Calls Try.prog 66 #[.agg #[.int .i64 yo, .int .i64 yn, .string ys, .slice co cm ck], .agg #[.int .i64 day, .slice fa fm fc]] V fun e w' => e = .returned (vlV v0) ∧ Below V.heap.size V w')
    (h1 : ∀ V, Below w.heap.size w V → Calls Try.prog 66 #[.agg #[.int .i64 zo, .int .i64 zn, .string zs, .slice co1 dm ck1], .agg #[.int .i64 day, .slice fa fm fc]] V fun e w' => e = .returned (vlV v1) ∧ Below V.heap.size V w') :
    Calls Try.prog 90 #[.agg #[.int .i64 xo, .int .i64 xn, .string xs, .slice (some a) 2 k], .agg #[.int .i64 day, .slice fa fm fc], .bool d] w fun e w' => e = .returned (vlV (jnV d v0 v1)) ∧ Below w.heap.size w w' := by
  obtain ⟨bo, hbo⟩ : ∃ b, b = some a := ⟨_, rfl⟩
  obtain ⟨m, hm⟩ : ∃ m, m = 2 := ⟨_, rfl⟩
  have GA := Lib.hid (entry_made (.int .i64 xo) (.int .i64 xn) (.string xs) (.slice (some a) 2 k) (.int .i64 day) (.slice fa fm fc) w)
  have C0 := Lib.hid h0
  have C1 := Lib.hid h1
  have HC0 : Hid (∀ V, Below w.heap.size w V → FourX V a (.int .i64 yo) (.int .i64 yn) (.string ys) (.slice co cm ck)) := Lib.hid fun V hV => hf0.stay (hV.block _ ha)
  have HC1 : Hid (∀ V, Below w.heap.size w V → FourX V ⟨a.block, a.off + 4, none⟩ (.int .i64 zo) (.int .i64 zn) (.string zs) (.slice co1 dm ck1)) := Lib.hid fun V hV => hf1.stay (hV.block _ ha)
  obtain ⟨r0, hr0⟩ : ∃ r, r = v0.kind := ⟨_, rfl⟩
  obtain ⟨n0, hn0⟩ : ∃ r, r = v0.n := ⟨_, rfl⟩
  obtain ⟨t0, ht0⟩ : ∃ r, r = v0.b := ⟨_, rfl⟩
  obtain ⟨r1, hr1⟩ : ∃ r, r = v1.kind := ⟨_, rfl⟩
  obtain ⟨n1, hn1⟩ : ∃ r, r = v1.n := ⟨_, rfl⟩
  obtain ⟨t1, ht1⟩ : ∃ r, r = v1.b := ⟨_, rfl⟩
  have HV0 : Hid (v0 = ⟨r0, n0, t0⟩) := Lib.hid (by rw [hr0, hn0, ht0])
  have HV1 : Hid (v1 = ⟨r1, n1, t1⟩) := Lib.hid (by rw [hr1, hn1, ht1])
  rw [show vlV v0 = .agg #[.int .i64 r0, .int .i64 n0, .bool t0] from by rw [hr0, hn0, ht0]] at C0
  rw [show vlV v1 = .agg #[.int .i64 r1, .int .i64 n1, .bool t1] from by rw [hr1, hn1, ht1]] at C1
  clear h0 h1 hf0 hf1 hr0 hn0 ht0 hr1 hn1 ht1 hbo hm ha
  go_enter Try.func90, Try.ntmps90
  go_upto_region 1 with fail
  obtain ⟨W, hW⟩ : ∃ X, ((w.alloc (.cells #[.int .i64 xo, .int .i64 xn, .string xs, .slice (some a) 2 k] 34)).alloc (.cells #[.int .i64 day, .slice fa fm fc] 63)).alloc (.cells #[.int .i64 0, .int .i64 0, .bool false] 73) = X := ⟨_, rfl⟩
  obtain ⟨g1, b1, b2, b3⟩ := GA.out W hW
  obtain ⟨z, hz⟩ : ∃ z, z = w.heap.size := ⟨_, rfl⟩
  rw [hW, ← hz]
  rw [← hz] at b1 b2 b3
  have HE : Hid (EvB z #[.int .i64 xo, .int .i64 xn, .string xs, .slice (some a) 2 k] #[.int .i64 day, .slice fa fm fc] w W) := Lib.hid ⟨g1, b1, b2, b3, by omega⟩
  clear hW b1 b2 b3 g1 GA hz
  have c3 : W.cell? ⟨z, 3, none⟩ = some (.slice (some a) 2 k) := cell_blk HE.out.ex 3
  obtain ⟨e0, e1⟩ := duo HE.out.en
  obtain ⟨y0, y1, y2, y3⟩ := HC0.out W HE.out.bel
  go_cut [7] (fun p wx => ∃ u : Nat, p = .pointer (some ⟨u, 0, none⟩) ∧ Hid (Below W.heap.size W wx ∧ W.heap.size ≤ u ∧ wx.heap[u]? = some (.cells #[.int .i64 r0, .int .i64 n0, .bool t0] 73 (0, 0))))
  case first =>
    have HBA : Hid (Below W.heap.size W (W.alloc (.cells #[.int .i64 0, .int .i64 0, .bool false] 73)).drew ∧ (W.alloc (.cells #[.int .i64 0, .int .i64 0, .bool false] 73)).drew.heap[W.heap.size]? = some (.cells #[.int .i64 0, .int .i64 0, .bool false] 73 (0, 0))) := Lib.hid ⟨((Below.refl _ _).alloc (Nat.le_refl _) _).drew, heap_alloc_new _ _⟩
    have HBD : Hid (Below W.heap.size W W.drew) := Lib.hid (Below.refl _ _).drew
    have HSF : Hid (∀ V, Below W.heap.size W V → V.cell? ⟨z, 3, none⟩ = some (.slice (some a) 2 k) ∧ V.cell? ⟨z + 1, 0, none⟩ = some (.int .i64 day) ∧ V.cell? ⟨z + 1, 1, none⟩ = some (.slice fa fm fc) ∧ V.cell? a = some (.int .i64 yo) ∧ V.cell? ⟨a.block, a.off + 1, none⟩ = some (.int .i64 yn) ∧ V.cell? ⟨a.block, a.off + 2, none⟩ = some (.string ys) ∧ V.cell? ⟨a.block, a.off + 3, none⟩ = some (.slice co cm ck)) := Lib.hid fun V hV => ⟨cell_blk (HE.out.next hV).ex 3, (duo (HE.out.next hV).en).1, (duo (HE.out.next hV).en).2, (HC0.out V (HE.out.next hV).bel).1, (HC0.out V (HE.out.next hV).bel).2.1, (HC0.out V (HE.out.next hV).bel).2.2.1, (HC0.out V (HE.out.next hV).bel).2.2.2⟩
    go_region_held3 (fun w' => w'.cell? ⟨z, 3, none⟩ = some (.slice (some a) 2 k) ∧ w'.cell? ⟨z + 1, 0, none⟩ = some (.int .i64 day) ∧ w'.cell? ⟨z + 1, 1, none⟩ = some (.slice fa fm fc) ∧ w'.cell? a = some (.int .i64 yo) ∧ w'.cell? ⟨a.block, a.off + 1, none⟩ = some (.int .i64 yn) ∧ w'.cell? ⟨a.block, a.off + 2, none⟩ = some (.string ys) ∧ w'.cell? ⟨a.block, a.off + 3, none⟩ = some (.slice co cm ck))
      (first | exact HSF.out _ HB4.out | exact HSF.out _ (below_mono HB4.out ((Below.refl _ _).alloc (Nat.le_refl _) _) (Nat.le_refl _)) | exact HSF.out _ (((HB4.out.setCell (p := ⟨W.heap.size, 0, none⟩) (Nat.le_refl _) _).setCell (p := ⟨W.heap.size, 1, none⟩) (Nat.le_refl _) _).setCell (p := ⟨W.heap.size, 2, none⟩) (Nat.le_refl _) _) | (go_keep; done))
      (first
        | (go_at_call 66; (with_reducible refine (C0.out _ (HE.out.next HBD.out).bel).mono ?_); rintro e w4 ⟨rfl, hb⟩; have HB4 := Lib.hid (HBD.out.trans hb); clear hb; obtain ⟨⟨n0', n1', n2'⟩, p0, p1, p2⟩ := three_zero w4 (.int .i64 0) (.int .i64 0) (.bool false) 73)
        | (go_at_call 66; (with_reducible refine (C0.out _ (HE.out.next HBA.out.1).bel).mono ?_); rintro e w4 ⟨rfl, hb⟩; have HB4 := Lib.hid (HBA.out.1.trans (hb.mono (by simp))); have HX4 := Lib.hid ((hb.block _ (by simp)).trans HBA.out.2); obtain ⟨n0', n1', n2'⟩ := trio HX4.out; have p0 : w4.frozen? ⟨W.heap.size, 0, none⟩ = false := free_blk HX4.out 0; have p1 : w4.frozen? ⟨W.heap.size, 1, none⟩ = false := free_blk HX4.out 1; have p2 : w4.frozen? ⟨W.heap.size, 2, none⟩ = false := free_blk HX4.out 2; clear hb))
    · go_wp2_with fail
      go_meet
      exact ⟨w4.heap.size, rfl, Lib.hid ⟨below_mono HB4.out ((Below.refl _ _).alloc (Nat.le_refl _) _) (Nat.le_refl _), HB4.out.size, heap_alloc_new _ _⟩⟩
    · go_wp2_with fail
      go_meet
      obtain ⟨k9, _, _, x9⟩ := three_set w4 W.heap.size (.int .i64 r0) (.int .i64 n0) (.bool t0) _ _ ⟨_, _, _, rfl⟩ HX4.out _ rfl
      exact ⟨W.heap.size, rfl, Lib.hid ⟨HB4.out.trans k9, Nat.le_refl _, x9⟩⟩
  case rest =>
    obtain ⟨u, rfl, HU⟩ := hcut
    clear c3 e0 e1 y0 y1 y2 y3
    have HE2 := Lib.hid (HE.out.next HU.out.1)
    have HXU := Lib.hid HU.out.2.2
    obtain ⟨k0, k1, k2⟩ := trio HXU.out
    by_cases h3 : r0 = 3
    · subst h3
      have HR : Hid (jnV d v0 v1 = ⟨3, n0, t0⟩) := Lib.hid (by rw [HV0.out]; rfl)
      go_upto_region 2 with fail
      go_quiet (fail)
      go_upto_region 3 with fail
      refine wp_letter (fun V => Below wc.heap.size wc V) (below_drewN (Below.refl _ _) _) ?_
      rintro W8 hw8
      have HE8 := Lib.hid (HE2.out.next hw8)
      have hx8 := (hw8.block u (lt_of_heap HXU.out)).trans HXU.out
      clear hw8 k0 k1 k2
      obtain ⟨k0, k1, k2⟩ := trio hx8
      clear hx8
      obtain ⟨q0', q1', q2'⟩ := trio HE8.out.va
      have p0 : W8.frozen? ⟨z + 1 + 1, 0, none⟩ = false := free_blk HE8.out.va 0
      have p1 : W8.frozen? ⟨z + 1 + 1, 1, none⟩ = false := free_blk HE8.out.va 1
      have p2 : W8.frozen? ⟨z + 1 + 1, 2, none⟩ = false := free_blk HE8.out.va 2
      go_wp2_with fail
      have HS9 := Lib.hid (three_set W8 (z + 1 + 1) (.int .i64 3) (.int .i64 n0) (.bool t0) _ _ ⟨_, _, _, rfl⟩ HE8.out.va)
      clear q0' q1' q2' p0 p1 p2
      obtain ⟨W9, hW9⟩ : ∃ X, (((W8.setCell ⟨z + 1 + 1, 0, none⟩ (.int .i64 3)).setCell ⟨z + 1 + 1, 1, none⟩ (.int .i64 n0)).setCell ⟨z + 1 + 1, 2, none⟩ (.bool t0)) = X := ⟨_, rfl⟩
      obtain ⟨k9, _, _, x9⟩ := HS9.out W9 hW9
      rw [hW9]
      obtain ⟨d0, d1, d2⟩ := trio x9
      exact bodyPost_ret (v := .agg #[.int .i64 3, .int .i64 n0, .bool t0]) (by simp [results, Try.results90, go_sem, d0, d1, d2]) rfl ⟨by rw [HR.out], HE8.out.bel.trans (k9.mono (by have := HE8.out.le; omega))⟩
    · have f3 : (r0 == 3) = false := by simp [h3]
      obtain ⟨q0, hq0⟩ : ∃ q, q = isT v0 d := ⟨_, rfl⟩
      have HQ : ∀ V, (Op.equalIn 10000 73 (.agg #[.int .i64 r0, .int .i64 n0, .bool t0]) (.agg #[.int .i64 2, .int .i64 0, .bool d])).run Try.prog V = .ok q0 V := fun V => by
        rw [hq0, HV0.out]; exact eq_vl r0 n0 2 0 t0 d V
      have HQ0 := Lib.hid hq0
      clear hq0
      have QF := Lib.hid (fun V : World => truth_any d V)
      cases q0 with
      | true =>
        have HR : Hid (jnV d v0 v1 = ⟨r0, n0, t0⟩) := Lib.hid (by unfold jnV; rw [← HQ0.out, Bool.or_true, if_pos rfl]; exact HV0.out)
        go_upto_region 2 with fail
        have CQ : Hid (∀ dd os, Calls Try.prog 92 #[.bool d] (grow (redrawn wc dd) os) fun e w'' => e = .returned (.agg #[.int .i64 2, .int .i64 0, .bool d]) ∧ ∃ q : Regrown, w'' = grow (redrawn wc q.d) q.os) := Lib.hid fun dd os => Calls.regrown_of (QF.out _)
        have cg0 : ∀ dd os, (grow (redrawn wc dd) os).cell? ⟨u, 0, none⟩ = some (.int .i64 r0) := fun dd os => (trio (((below_regrown wc dd os).block _ (lt_of_heap HXU.out)).trans HXU.out)).1
        have cg1 : ∀ dd os, (grow (redrawn wc dd) os).cell? ⟨u, 1, none⟩ = some (.int .i64 n0) := fun dd os => (trio (((below_regrown wc dd os).block _ (lt_of_heap HXU.out)).trans HXU.out)).2.1
        have cg2 : ∀ dd os, (grow (redrawn wc dd) os).cell? ⟨u, 2, none⟩ = some (.bool t0) := fun dd os => (trio (((below_regrown wc dd os).block _ (lt_of_heap HXU.out)).trans HXU.out)).2.2
        refine wp_region_quiet_below (by kernel_rfl) (by kernel_rfl) ?_
        repeat (first | go_big_quiet_step (with_reducible exact CQ.out _ _) | quiet_step (with_reducible exact CQ.out _ _))
        refine wpQuiet_nil ?_
        rintro _ ⟨⟨dq, osq⟩, hw''⟩
        subst hw''
        have HB4 := Lib.hid (below_regrown wc dq osq)
        clear cg0 cg1 cg2
        go_upto_region 3 with fail
        refine wp_letter (fun V => Below wc.heap.size wc V) HB4.out ?_
        rintro W8 hw8
        have HE8 := Lib.hid (HE2.out.next hw8)
        have HY0 := Lib.hid ((hw8.block _ (lt_of_heap HXU.out)).trans HXU.out)
        clear hw8
        clear k0 k1 k2
        obtain ⟨k0, k1, k2⟩ := trio HY0.out
        obtain ⟨q0', q1', q2'⟩ := trio HE8.out.va
        have p0 : W8.frozen? ⟨z + 1 + 1, 0, none⟩ = false := free_blk HE8.out.va 0
        have p1 : W8.frozen? ⟨z + 1 + 1, 1, none⟩ = false := free_blk HE8.out.va 1
        have p2 : W8.frozen? ⟨z + 1 + 1, 2, none⟩ = false := free_blk HE8.out.va 2
        go_wp2_with fail
        have HS9 := Lib.hid (three_set W8 (z + 1 + 1) (.int .i64 r0) (.int .i64 n0) (.bool t0) _ _ ⟨_, _, _, rfl⟩ HE8.out.va)
        clear q0' q1' q2' p0 p1 p2
        obtain ⟨W9, hW9⟩ : ∃ X, (((W8.setCell ⟨z + 1 + 1, 0, none⟩ (.int .i64 r0)).setCell ⟨z + 1 + 1, 1, none⟩ (.int .i64 n0)).setCell ⟨z + 1 + 1, 2, none⟩ (.bool t0)) = X := ⟨_, rfl⟩
        obtain ⟨k9, _, _, x9⟩ := HS9.out W9 hW9
        rw [hW9]
        obtain ⟨d0, d1, d2⟩ := trio x9
        exact bodyPost_ret (v := .agg #[.int .i64 r0, .int .i64 n0, .bool t0]) (by simp [results, Try.results90, go_sem, d0, d1, d2]) rfl ⟨by rw [HR.out], HE8.out.bel.trans (k9.mono (by have := HE8.out.le; omega))⟩
      | false =>
        have HR : Hid (jnV d v0 v1 = if (decide (v1.kind = 3) || decide (v0.kind = 2)) || isT v1 d then v1 else unkV) := Lib.hid (by
          unfold jnV
          rw [← HQ0.out, show decide (v0.kind = 3) = false from by rw [HV0.out]; simp [h3]]
          rw [Bool.or_comm (decide (v1.kind = 3))]
          rfl)
        go_upto_region 2 with fail
        have CQ : Hid (∀ dd os, Calls Try.prog 92 #[.bool d] (grow (redrawn wc dd) os) fun e w'' => e = .returned (.agg #[.int .i64 2, .int .i64 0, .bool d]) ∧ ∃ q : Regrown, w'' = grow (redrawn wc q.d) q.os) := Lib.hid fun dd os => Calls.regrown_of (QF.out _)
        have cg0 : ∀ dd os, (grow (redrawn wc dd) os).cell? ⟨u, 0, none⟩ = some (.int .i64 r0) := fun dd os => (trio (((below_regrown wc dd os).block _ (lt_of_heap HXU.out)).trans HXU.out)).1
        have cg1 : ∀ dd os, (grow (redrawn wc dd) os).cell? ⟨u, 1, none⟩ = some (.int .i64 n0) := fun dd os => (trio (((below_regrown wc dd os).block _ (lt_of_heap HXU.out)).trans HXU.out)).2.1
        have cg2 : ∀ dd os, (grow (redrawn wc dd) os).cell? ⟨u, 2, none⟩ = some (.bool t0) := fun dd os => (trio (((below_regrown wc dd os).block _ (lt_of_heap HXU.out)).trans HXU.out)).2.2
        refine wp_region_quiet_below (by kernel_rfl) (by kernel_rfl) ?_
        repeat (first | go_big_quiet_step (with_reducible exact CQ.out _ _) | quiet_step (with_reducible exact CQ.out _ _))
        refine wpQuiet_nil ?_
        rintro _ ⟨⟨dq, osq⟩, hw''⟩
        subst hw''
        have HB4 := Lib.hid (below_regrown wc dq osq)
        clear cg0 cg1 cg2
        go_upto_region 4 with fail
        refine wp_letter (fun V => Below wc.heap.size wc V) HB4.out ?_
        rintro W8 hw8
        have HE8 := Lib.hid (HE2.out.next hw8)
        have HY0 := Lib.hid ((hw8.block _ (lt_of_heap HXU.out)).trans HXU.out)
        clear hw8
        clear k0 k1 k2
        obtain ⟨wo, hwo⟩ : ∃ wo : World, wo = wc := ⟨_, rfl⟩
        have c3 : W8.cell? ⟨z, 3, none⟩ = some (.slice (some a) 2 k) := cell_blk HE8.out.ex 3
        obtain ⟨e0, e1⟩ := duo HE8.out.en
        obtain ⟨y0, y1, y2, y3⟩ := HC1.out W8 HE8.out.bel
        go_cut [8] (fun p wx => ∃ u : Nat, p = .pointer (some ⟨u, 0, none⟩) ∧ Hid (Below W8.heap.size W8 wx ∧ W8.heap.size ≤ u ∧ wx.heap[u]? = some (.cells #[.int .i64 r1, .int .i64 n1, .bool t1] 73 (0, 0))))
        case first =>
          have HBA : Hid (Below W8.heap.size W8 (W8.alloc (.cells #[.int .i64 0, .int .i64 0, .bool false] 73)).drew ∧ (W8.alloc (.cells #[.int .i64 0, .int .i64 0, .bool false] 73)).drew.heap[W8.heap.size]? = some (.cells #[.int .i64 0, .int .i64 0, .bool false] 73 (0, 0))) := Lib.hid ⟨((Below.refl _ _).alloc (Nat.le_refl _) _).drew, heap_alloc_new _ _⟩
          have HBD : Hid (Below W8.heap.size W8 W8.drew) := Lib.hid (Below.refl _ _).drew
          have HSF : Hid (∀ V, Below W8.heap.size W8 V → V.cell? ⟨z, 3, none⟩ = some (.slice (some a) 2 k) ∧ V.cell? ⟨z + 1, 0, none⟩ = some (.int .i64 day) ∧ V.cell? ⟨z + 1, 1, none⟩ = some (.slice fa fm fc) ∧ V.cell? ⟨a.block, a.off + 4, none⟩ = some (.int .i64 zo) ∧ V.cell? ⟨a.block, a.off + 4 + 1, none⟩ = some (.int .i64 zn) ∧ V.cell? ⟨a.block, a.off + 4 + 2, none⟩ = some (.string zs) ∧ V.cell? ⟨a.block, a.off + 4 + 3, none⟩ = some (.slice co1 dm ck1)) := Lib.hid fun V hV => ⟨cell_blk (HE8.out.next hV).ex 3, (duo (HE8.out.next hV).en).1, (duo (HE8.out.next hV).en).2, (HC1.out V (HE8.out.next hV).bel).1, (HC1.out V (HE8.out.next hV).bel).2.1, (HC1.out V (HE8.out.next hV).bel).2.2.1, (HC1.out V (HE8.out.next hV).bel).2.2.2⟩
          go_region_held3 (fun w' => w'.cell? ⟨z, 3, none⟩ = some (.slice (some a) 2 k) ∧ w'.cell? ⟨z + 1, 0, none⟩ = some (.int .i64 day) ∧ w'.cell? ⟨z + 1, 1, none⟩ = some (.slice fa fm fc) ∧ w'.cell? ⟨a.block, a.off + 4, none⟩ = some (.int .i64 zo) ∧ w'.cell? ⟨a.block, a.off + 4 + 1, none⟩ = some (.int .i64 zn) ∧ w'.cell? ⟨a.block, a.off + 4 + 2, none⟩ = some (.string zs) ∧ w'.cell? ⟨a.block, a.off + 4 + 3, none⟩ = some (.slice co1 dm ck1))
            (first | exact HSF.out _ HB4.out | exact HSF.out _ (below_mono HB4.out ((Below.refl _ _).alloc (Nat.le_refl _) _) (Nat.le_refl _)) | exact HSF.out _ (((HB4.out.setCell (p := ⟨W8.heap.size, 0, none⟩) (Nat.le_refl _) _).setCell (p := ⟨W8.heap.size, 1, none⟩) (Nat.le_refl _) _).setCell (p := ⟨W8.heap.size, 2, none⟩) (Nat.le_refl _) _) | (go_keep; done))
            (first
              | (go_at_call 66; (with_reducible refine (C1.out _ (HE8.out.next HBD.out).bel).mono ?_); rintro e w4 ⟨rfl, hb⟩; have HB4 := Lib.hid (HBD.out.trans hb); clear hb; obtain ⟨⟨n0', n1', n2'⟩, p0, p1, p2⟩ := three_zero w4 (.int .i64 0) (.int .i64 0) (.bool false) 73)
              | (go_at_call 66; (with_reducible refine (C1.out _ (HE8.out.next HBA.out.1).bel).mono ?_); rintro e w4 ⟨rfl, hb⟩; have HB4 := Lib.hid (HBA.out.1.trans (hb.mono (by simp))); have HX4 := Lib.hid ((hb.block _ (by simp)).trans HBA.out.2); obtain ⟨n0', n1', n2'⟩ := trio HX4.out; have p0 : w4.frozen? ⟨W8.heap.size, 0, none⟩ = false := free_blk HX4.out 0; have p1 : w4.frozen? ⟨W8.heap.size, 1, none⟩ = false := free_blk HX4.out 1; have p2 : w4.frozen? ⟨W8.heap.size, 2, none⟩ = false := free_blk HX4.out 2; clear hb))
          · go_wp2_with fail
            go_meet
            exact ⟨w4.heap.size, rfl, Lib.hid ⟨below_mono HB4.out ((Below.refl _ _).alloc (Nat.le_refl _) _) (Nat.le_refl _), HB4.out.size, heap_alloc_new _ _⟩⟩
          · go_wp2_with fail
            go_meet
            obtain ⟨k9, _, _, x9⟩ := three_set w4 W8.heap.size (.int .i64 r1) (.int .i64 n1) (.bool t1) _ _ ⟨_, _, _, rfl⟩ HX4.out _ rfl
            exact ⟨W8.heap.size, rfl, Lib.hid ⟨HB4.out.trans k9, Nat.le_refl _, x9⟩⟩
        case rest =>
          obtain ⟨u2, rfl, HU2⟩ := hcut
          clear c3 e0 e1 y0 y1 y2 y3
          have HE3 := Lib.hid (HE8.out.next HU2.out.1)
          have HXU8 := Lib.hid ((HU2.out.1.block u (lt_of_heap HY0.out)).trans HY0.out)
          have HXU2 := Lib.hid HU2.out.2.2
          obtain ⟨k0, k1, k2⟩ := trio HXU8.out
          obtain ⟨l0, l1, l2⟩ := trio HXU2.out
          by_cases g2 : r0 = 2
          · subst g2
            have HR2 : Hid (jnV d v0 v1 = ⟨r1, n1, t1⟩) := Lib.hid (by rw [HR.out, HV0.out]; simp; exact HV1.out)
            go_upto_region 5 with fail
            go_quiet (fail)
            go_upto_region 6 with fail
            refine wp_letter (fun V => Below wc.heap.size wc V) (below_drewN (Below.refl _ _) _) ?_
            rintro W9 hw8
            have HE8 := Lib.hid (HE3.out.next hw8)
            have HY0 := Lib.hid ((hw8.block _ (lt_of_heap HXU2.out)).trans HXU2.out)
            clear hw8
            clear k0 k1 k2 l0 l1 l2
            obtain ⟨k0, k1, k2⟩ := trio HY0.out
            obtain ⟨q0', q1', q2'⟩ := trio HE8.out.va
            have p0 : W9.frozen? ⟨z + 1 + 1, 0, none⟩ = false := free_blk HE8.out.va 0
            have p1 : W9.frozen? ⟨z + 1 + 1, 1, none⟩ = false := free_blk HE8.out.va 1
            have p2 : W9.frozen? ⟨z + 1 + 1, 2, none⟩ = false := free_blk HE8.out.va 2
            go_wp2_with fail
            have HS9 := Lib.hid (three_set W9 (z + 1 + 1) (.int .i64 r1) (.int .i64 n1) (.bool t1) _ _ ⟨_, _, _, rfl⟩ HE8.out.va)
            clear q0' q1' q2' p0 p1 p2
            obtain ⟨W10, hW9⟩ : ∃ X, (((W9.setCell ⟨z + 1 + 1, 0, none⟩ (.int .i64 r1)).setCell ⟨z + 1 + 1, 1, none⟩ (.int .i64 n1)).setCell ⟨z + 1 + 1, 2, none⟩ (.bool t1)) = X := ⟨_, rfl⟩
            obtain ⟨k9, _, _, x9⟩ := HS9.out W10 hW9
            rw [hW9]
            obtain ⟨d0, d1, d2⟩ := trio x9
            exact bodyPost_ret (v := .agg #[.int .i64 r1, .int .i64 n1, .bool t1]) (by simp [results, Try.results90, go_sem, d0, d1, d2]) rfl ⟨by rw [HR2.out], HE8.out.bel.trans (k9.mono (by have := HE8.out.le; omega))⟩
          · have f2 : (r0 == 2) = false := by simp [g2]
            by_cases g3 : r1 = 3
            · subst g3
              have HR2 : Hid (jnV d v0 v1 = ⟨3, n1, t1⟩) := Lib.hid (by rw [HR.out, HV1.out]; simp)
              go_upto_region 5 with fail
              go_quiet (fail)
              go_upto_region 6 with fail
              refine wp_letter (fun V => Below wc.heap.size wc V) (below_drewN (Below.refl _ _) _) ?_
              rintro W9 hw8
              have HE8 := Lib.hid (HE3.out.next hw8)
              have HY0 := Lib.hid ((hw8.block _ (lt_of_heap HXU2.out)).trans HXU2.out)
              clear hw8
              clear k0 k1 k2 l0 l1 l2
              obtain ⟨k0, k1, k2⟩ := trio HY0.out
              obtain ⟨q0', q1', q2'⟩ := trio HE8.out.va
              have p0 : W9.frozen? ⟨z + 1 + 1, 0, none⟩ = false := free_blk HE8.out.va 0
              have p1 : W9.frozen? ⟨z + 1 + 1, 1, none⟩ = false := free_blk HE8.out.va 1
              have p2 : W9.frozen? ⟨z + 1 + 1, 2, none⟩ = false := free_blk HE8.out.va 2
              go_wp2_with fail
              have HS9 := Lib.hid (three_set W9 (z + 1 + 1) (.int .i64 3) (.int .i64 n1) (.bool t1) _ _ ⟨_, _, _, rfl⟩ HE8.out.va)
              clear q0' q1' q2' p0 p1 p2
              obtain ⟨W10, hW9⟩ : ∃ X, (((W9.setCell ⟨z + 1 + 1, 0, none⟩ (.int .i64 3)).setCell ⟨z + 1 + 1, 1, none⟩ (.int .i64 n1)).setCell ⟨z + 1 + 1, 2, none⟩ (.bool t1)) = X := ⟨_, rfl⟩
              obtain ⟨k9, _, _, x9⟩ := HS9.out W10 hW9
              rw [hW9]
              obtain ⟨d0, d1, d2⟩ := trio x9
              exact bodyPost_ret (v := .agg #[.int .i64 3, .int .i64 n1, .bool t1]) (by simp [results, Try.results90, go_sem, d0, d1, d2]) rfl ⟨by rw [HR2.out], HE8.out.bel.trans (k9.mono (by have := HE8.out.le; omega))⟩
            · have f3' : (r1 == 3) = false := by simp [g3]
              obtain ⟨q1, hq1⟩ : ∃ q, q = isT v1 d := ⟨_, rfl⟩
              have HQ' : ∀ V, (Op.equalIn 10000 73 (.agg #[.int .i64 r1, .int .i64 n1, .bool t1]) (.agg #[.int .i64 2, .int .i64 0, .bool d])).run Try.prog V = .ok q1 V := fun V => by
                rw [hq1, HV1.out]; exact eq_vl r1 n1 2 0 t1 d V
              have HR2 : Hid (jnV d v0 v1 = if q1 = true then v1 else unkV) := Lib.hid (by rw [HR.out, hq1, show decide (v1.kind = 3) = false from by rw [HV1.out]; simp [g3], show decide (v0.kind = 2) = false from by rw [HV0.out]; simp [g2]]; rfl)
              clear hq1
              go_upto_region 5 with fail
              cases q1 with
              | true =>
                have HR3 : Hid (jnV d v0 v1 = ⟨r1, n1, t1⟩) := Lib.hid (by rw [HR2.out, if_pos rfl]; exact HV1.out)
                have CQ : Hid (∀ dd os, Calls Try.prog 92 #[.bool d] (grow (redrawn wc dd) os) fun e w'' => e = .returned (.agg #[.int .i64 2, .int .i64 0, .bool d]) ∧ ∃ q : Regrown, w'' = grow (redrawn wc q.d) q.os) := Lib.hid fun dd os => Calls.regrown_of (QF.out _)
                have cg0 : ∀ dd os, (grow (redrawn wc dd) os).cell? ⟨u, 0, none⟩ = some (.int .i64 r0) := fun dd os => (trio (((below_regrown wc dd os).block _ (lt_of_heap HXU8.out)).trans HXU8.out)).1
                have cg1 : ∀ dd os, (grow (redrawn wc dd) os).cell? ⟨u, 1, none⟩ = some (.int .i64 n0) := fun dd os => (trio (((below_regrown wc dd os).block _ (lt_of_heap HXU8.out)).trans HXU8.out)).2.1
                have cg2 : ∀ dd os, (grow (redrawn wc dd) os).cell? ⟨u, 2, none⟩ = some (.bool t0) := fun dd os => (trio (((below_regrown wc dd os).block _ (lt_of_heap HXU8.out)).trans HXU8.out)).2.2
                have cg3 : ∀ dd os, (grow (redrawn wc dd) os).cell? ⟨u2, 0, none⟩ = some (.int .i64 r1) := fun dd os => (trio (((below_regrown wc dd os).block _ (lt_of_heap HXU2.out)).trans HXU2.out)).1
                have cg4 : ∀ dd os, (grow (redrawn wc dd) os).cell? ⟨u2, 1, none⟩ = some (.int .i64 n1) := fun dd os => (trio (((below_regrown wc dd os).block _ (lt_of_heap HXU2.out)).trans HXU2.out)).2.1
                have cg5 : ∀ dd os, (grow (redrawn wc dd) os).cell? ⟨u2, 2, none⟩ = some (.bool t1) := fun dd os => (trio (((below_regrown wc dd os).block _ (lt_of_heap HXU2.out)).trans HXU2.out)).2.2
                refine wp_region_quiet_below (by kernel_rfl) (by kernel_rfl) ?_
                repeat (first | go_big_quiet_step (with_reducible exact CQ.out _ _) | quiet_step (with_reducible exact CQ.out _ _))
                refine wpQuiet_nil ?_
                rintro _ ⟨⟨dq, osq⟩, hw''⟩
                subst hw''
                have HB4 := Lib.hid (below_regrown wc dq osq)
                clear cg0 cg1 cg2 cg3 cg4 cg5
                go_upto_region 6 with fail
                refine wp_letter (fun V => Below wc.heap.size wc V) HB4.out ?_
                rintro W9 hw8
                have HE8 := Lib.hid (HE3.out.next hw8)
                have HY0 := Lib.hid ((hw8.block _ (lt_of_heap HXU2.out)).trans HXU2.out)
                clear hw8
                clear k0 k1 k2 l0 l1 l2
                obtain ⟨k0, k1, k2⟩ := trio HY0.out
                obtain ⟨q0', q1', q2'⟩ := trio HE8.out.va
                have p0 : W9.frozen? ⟨z + 1 + 1, 0, none⟩ = false := free_blk HE8.out.va 0
                have p1 : W9.frozen? ⟨z + 1 + 1, 1, none⟩ = false := free_blk HE8.out.va 1
                have p2 : W9.frozen? ⟨z + 1 + 1, 2, none⟩ = false := free_blk HE8.out.va 2
                go_wp2_with fail
                have HS9 := Lib.hid (three_set W9 (z + 1 + 1) (.int .i64 r1) (.int .i64 n1) (.bool t1) _ _ ⟨_, _, _, rfl⟩ HE8.out.va)
                clear q0' q1' q2' p0 p1 p2
                obtain ⟨W10, hW9⟩ : ∃ X, (((W9.setCell ⟨z + 1 + 1, 0, none⟩ (.int .i64 r1)).setCell ⟨z + 1 + 1, 1, none⟩ (.int .i64 n1)).setCell ⟨z + 1 + 1, 2, none⟩ (.bool t1)) = X := ⟨_, rfl⟩
                obtain ⟨k9, _, _, x9⟩ := HS9.out W10 hW9
                rw [hW9]
                obtain ⟨d0, d1, d2⟩ := trio x9
                exact bodyPost_ret (v := .agg #[.int .i64 r1, .int .i64 n1, .bool t1]) (by simp [results, Try.results90, go_sem, d0, d1, d2]) rfl ⟨by rw [HR3.out], HE8.out.bel.trans (k9.mono (by have := HE8.out.le; omega))⟩
              | false =>
                have HR3 : Hid (jnV d v0 v1 = unkV) := Lib.hid (by rw [HR2.out]; rfl)
                have CQ : Hid (∀ dd os, Calls Try.prog 92 #[.bool d] (grow (redrawn wc dd) os) fun e w'' => e = .returned (.agg #[.int .i64 2, .int .i64 0, .bool d]) ∧ ∃ q : Regrown, w'' = grow (redrawn wc q.d) q.os) := Lib.hid fun dd os => Calls.regrown_of (QF.out _)
                have cg0 : ∀ dd os, (grow (redrawn wc dd) os).cell? ⟨u, 0, none⟩ = some (.int .i64 r0) := fun dd os => (trio (((below_regrown wc dd os).block _ (lt_of_heap HXU8.out)).trans HXU8.out)).1
                have cg1 : ∀ dd os, (grow (redrawn wc dd) os).cell? ⟨u, 1, none⟩ = some (.int .i64 n0) := fun dd os => (trio (((below_regrown wc dd os).block _ (lt_of_heap HXU8.out)).trans HXU8.out)).2.1
                have cg2 : ∀ dd os, (grow (redrawn wc dd) os).cell? ⟨u, 2, none⟩ = some (.bool t0) := fun dd os => (trio (((below_regrown wc dd os).block _ (lt_of_heap HXU8.out)).trans HXU8.out)).2.2
                have cg3 : ∀ dd os, (grow (redrawn wc dd) os).cell? ⟨u2, 0, none⟩ = some (.int .i64 r1) := fun dd os => (trio (((below_regrown wc dd os).block _ (lt_of_heap HXU2.out)).trans HXU2.out)).1
                have cg4 : ∀ dd os, (grow (redrawn wc dd) os).cell? ⟨u2, 1, none⟩ = some (.int .i64 n1) := fun dd os => (trio (((below_regrown wc dd os).block _ (lt_of_heap HXU2.out)).trans HXU2.out)).2.1
                have cg5 : ∀ dd os, (grow (redrawn wc dd) os).cell? ⟨u2, 2, none⟩ = some (.bool t1) := fun dd os => (trio (((below_regrown wc dd os).block _ (lt_of_heap HXU2.out)).trans HXU2.out)).2.2
                refine wp_region_quiet_below (by kernel_rfl) (by kernel_rfl) ?_
                repeat (first | go_big_quiet_step (with_reducible exact CQ.out _ _) | quiet_step (with_reducible exact CQ.out _ _))
                refine wpQuiet_nil ?_
                rintro _ ⟨⟨dq, osq⟩, hw''⟩
                subst hw''
                have HB4 := Lib.hid (below_regrown wc dq osq)
                clear cg0 cg1 cg2 cg3 cg4 cg5
                go_upto_region 7 with fail
                refine wp_letter (fun V => Below wc.heap.size wc V) HB4.out ?_
                rintro W9 hw8
                have HE8 := Lib.hid (HE3.out.next hw8)
                have HY0 := Lib.hid ((hw8.block _ (lt_of_heap HXU2.out)).trans HXU2.out)
                clear hw8
                clear k0 k1 k2 l0 l1 l2
                obtain ⟨q0', q1', q2'⟩ := trio HE8.out.va
                have p0 : W9.frozen? ⟨z + 1 + 1, 0, none⟩ = false := free_blk HE8.out.va 0
                have p1 : W9.frozen? ⟨z + 1 + 1, 1, none⟩ = false := free_blk HE8.out.va 1
                have p2 : W9.frozen? ⟨z + 1 + 1, 2, none⟩ = false := free_blk HE8.out.va 2
                go_wp2_with fail
                have HS9 := Lib.hid (three_set W9 (z + 1 + 1) (.int .i64 0) (.int .i64 0) (.bool false) _ _ ⟨_, _, _, rfl⟩ HE8.out.va)
                clear q0' q1' q2' p0 p1 p2
                obtain ⟨W10, hW9⟩ : ∃ X, (((W9.setCell ⟨z + 1 + 1, 0, none⟩ (.int .i64 0)).setCell ⟨z + 1 + 1, 1, none⟩ (.int .i64 0)).setCell ⟨z + 1 + 1, 2, none⟩ (.bool false)) = X := ⟨_, rfl⟩
                obtain ⟨k9, _, _, x9⟩ := HS9.out W10 hW9
                rw [hW9]
                obtain ⟨d0, d1, d2⟩ := trio x9
                exact bodyPost_ret (v := .agg #[.int .i64 0, .int .i64 0, .bool false]) (by simp [results, Try.results90, go_sem, d0, d1, d2]) rfl ⟨by rw [HR3.out]; rfl, HE8.out.bel.trans (k9.mono (by have := HE8.out.le; omega))⟩
theorem set3_cell (V : World) (rb : Nat) (x0 x1 x2 : Value) {p : Addr} (hb : p.block ≠ rb) : (((V.setCell ⟨rb, 0, none⟩ x0).setCell ⟨rb, 1, none⟩ x1).setCell ⟨rb, 2, none⟩ x2).cell? p = V.cell? p :=
  cell_heap ((Below.heap_setCell _ _ _ _ hb).trans ((Below.heap_setCell _ _ _ _ hb).trans (Below.heap_setCell _ _ _ _ hb)))
set_option maxRecDepth 100000 in
set_option maxHeartbeats 8000000 in
theorem chosen_any {xo xn : Int} {xs : ByteArray} {a : Addr} {k : Nat} {day : Int} {fa : Option Addr} {fm fc : Nat} (v0 v1 v2 : Vl) (w : World) {yo yn : Int} {ys : ByteArray} {co : Option Addr} {cm ck : Nat} {zo zn : Int} {zs : ByteArray} {co1 : Option Addr} {dm ck1 : Nat} {uo un : Int} {us : ByteArray} {co2 : Option Addr} {um ck2 : Nat} (ha : a.block < w.heap.size)
    (hf0 : FourX w a (.int .i64 yo) (.int .i64 yn) (.string ys) (.slice co cm ck)) (hf1 : FourX w ⟨a.block, a.off + 4, none⟩ (.int .i64 zo) (.int .i64 zn) (.string zs) (.slice co1 dm ck1)) (hf2 : FourX w ⟨a.block, a.off + 8, none⟩ (.int .i64 uo) (.int .i64 un) (.string us) (.slice co2 um ck2))
    (h0 : ∀ V, Below w.heap.size w V → Calls Try.prog 66 #[.agg #[.int .i64 yo, .int .i64 yn, .string ys, .slice co cm ck], .agg #[.int .i64 day, .slice fa fm fc]] V fun e w' => e = .returned (vlV v0) ∧ Below V.heap.size V w')
    (h1 : ∀ V, Below w.heap.size w V → Calls Try.prog 66 #[.agg #[.int .i64 zo, .int .i64 zn, .string zs, .slice co1 dm ck1], .agg #[.int .i64 day, .slice fa fm fc]] V fun e w' => e = .returned (vlV v1) ∧ Below V.heap.size V w')
    (h2 : ∀ V, Below w.heap.size w V → Calls Try.prog 66 #[.agg #[.int .i64 uo, .int .i64 un, .string us, .slice co2 um ck2], .agg #[.int .i64 day, .slice fa fm fc]] V fun e w' => e = .returned (vlV v2) ∧ Below V.heap.size V w') :
    Calls Try.prog 91 #[.agg #[.int .i64 xo, .int .i64 xn, .string xs, .slice (some a) 3 k], .agg #[.int .i64 day, .slice fa fm fc]] w fun e w' => e = .returned (vlV (chV v0 v1 v2)) ∧ Below w.heap.size w w' := by
  have GA := Lib.hid (entry_made (.int .i64 xo) (.int .i64 xn) (.string xs) (.slice (some a) 3 k) (.int .i64 day) (.slice fa fm fc) w)
  have C0 := Lib.hid h0
  have C1 := Lib.hid h1
  have C2 := Lib.hid h2
  have HAB := Lib.hid ha
  have HC0 : Hid (∀ V, Below w.heap.size w V → FourX V a (.int .i64 yo) (.int .i64 yn) (.string ys) (.slice co cm ck)) := Lib.hid fun V hV => hf0.stay (hV.block _ ha)
  have HC1 : Hid (∀ V, Below w.heap.size w V → FourX V ⟨a.block, a.off + 4, none⟩ (.int .i64 zo) (.int .i64 zn) (.string zs) (.slice co1 dm ck1)) := Lib.hid fun V hV => hf1.stay (hV.block _ ha)
  have HC2 : Hid (∀ V, Below w.heap.size w V → FourX V ⟨a.block, a.off + 8, none⟩ (.int .i64 uo) (.int .i64 un) (.string us) (.slice co2 um ck2)) := Lib.hid fun V hV => hf2.stay (hV.block _ ha)
  obtain ⟨r0, hr0⟩ : ∃ r, r = v0.kind := ⟨_, rfl⟩
  obtain ⟨n0, hn0⟩ : ∃ r, r = v0.n := ⟨_, rfl⟩
  obtain ⟨t0, ht0⟩ : ∃ r, r = v0.b := ⟨_, rfl⟩
  have HV0 : Hid (v0 = ⟨r0, n0, t0⟩) := Lib.hid (by rw [hr0, hn0, ht0])
  rw [show vlV v0 = .agg #[.int .i64 r0, .int .i64 n0, .bool t0] from by rw [hr0, hn0, ht0]] at C0
  clear hr0 hn0 ht0
  obtain ⟨r1, hr1⟩ : ∃ r, r = v1.kind := ⟨_, rfl⟩
  obtain ⟨n1, hn1⟩ : ∃ r, r = v1.n := ⟨_, rfl⟩
  obtain ⟨t1, ht1⟩ : ∃ r, r = v1.b := ⟨_, rfl⟩
  have HV1 : Hid (v1 = ⟨r1, n1, t1⟩) := Lib.hid (by rw [hr1, hn1, ht1])
  rw [show vlV v1 = .agg #[.int .i64 r1, .int .i64 n1, .bool t1] from by rw [hr1, hn1, ht1]] at C1
  clear hr1 hn1 ht1
  obtain ⟨r2, hr2⟩ : ∃ r, r = v2.kind := ⟨_, rfl⟩
  obtain ⟨n2, hn2⟩ : ∃ r, r = v2.n := ⟨_, rfl⟩
  obtain ⟨t2, ht2⟩ : ∃ r, r = v2.b := ⟨_, rfl⟩
  have HV2 : Hid (v2 = ⟨r2, n2, t2⟩) := Lib.hid (by rw [hr2, hn2, ht2])
  rw [show vlV v2 = .agg #[.int .i64 r2, .int .i64 n2, .bool t2] from by rw [hr2, hn2, ht2]] at C2
  clear hr2 hn2 ht2
  clear h0 h1 h2 hf0 hf1 hf2 ha
  go_enter Try.func91, Try.ntmps91
  go_upto_region 1 with fail
  obtain ⟨W, hW⟩ : ∃ X, ((w.alloc (.cells #[.int .i64 xo, .int .i64 xn, .string xs, .slice (some a) 3 k] 34)).alloc (.cells #[.int .i64 day, .slice fa fm fc] 63)).alloc (.cells #[.int .i64 0, .int .i64 0, .bool false] 73) = X := ⟨_, rfl⟩
  obtain ⟨g1, b1, b2, b3⟩ := GA.out W hW
  obtain ⟨z, hz⟩ : ∃ z, z = w.heap.size := ⟨_, rfl⟩
  rw [hW, ← hz]
  rw [← hz] at b1 b2 b3
  have HE : Hid (EvB z #[.int .i64 xo, .int .i64 xn, .string xs, .slice (some a) 3 k] #[.int .i64 day, .slice fa fm fc] w W) := Lib.hid ⟨g1, b1, b2, b3, by omega⟩
  clear hW b1 b2 b3 g1 GA hz
  have c3 : W.cell? ⟨z, 3, none⟩ = some (.slice (some a) 3 k) := cell_blk HE.out.ex 3
  obtain ⟨e0, e1⟩ := duo HE.out.en
  obtain ⟨y0, y1, y2, y3⟩ := HC0.out W HE.out.bel
  go_cut [5] (fun p wx => ∃ u : Nat, p = .pointer (some ⟨u, 0, none⟩) ∧ Hid (Below W.heap.size W wx ∧ W.heap.size ≤ u ∧ wx.heap[u]? = some (.cells #[.int .i64 r0, .int .i64 n0, .bool t0] 73 (0, 0))))
  case first =>
    have HBA : Hid (Below W.heap.size W (W.alloc (.cells #[.int .i64 0, .int .i64 0, .bool false] 73)).drew ∧ (W.alloc (.cells #[.int .i64 0, .int .i64 0, .bool false] 73)).drew.heap[W.heap.size]? = some (.cells #[.int .i64 0, .int .i64 0, .bool false] 73 (0, 0))) := Lib.hid ⟨((Below.refl _ _).alloc (Nat.le_refl _) _).drew, heap_alloc_new _ _⟩
    have HBD : Hid (Below W.heap.size W W.drew) := Lib.hid (Below.refl _ _).drew
    have HSF : Hid (∀ V, Below W.heap.size W V → V.cell? ⟨z, 3, none⟩ = some (.slice (some a) 3 k) ∧ V.cell? ⟨z + 1, 0, none⟩ = some (.int .i64 day) ∧ V.cell? ⟨z + 1, 1, none⟩ = some (.slice fa fm fc) ∧ V.cell? a = some (.int .i64 yo) ∧ V.cell? ⟨a.block, a.off + 1, none⟩ = some (.int .i64 yn) ∧ V.cell? ⟨a.block, a.off + 2, none⟩ = some (.string ys) ∧ V.cell? ⟨a.block, a.off + 3, none⟩ = some (.slice co cm ck)) := Lib.hid fun V hV => ⟨cell_blk (HE.out.next hV).ex 3, (duo (HE.out.next hV).en).1, (duo (HE.out.next hV).en).2, (HC0.out V (HE.out.next hV).bel).1, (HC0.out V (HE.out.next hV).bel).2.1, (HC0.out V (HE.out.next hV).bel).2.2.1, (HC0.out V (HE.out.next hV).bel).2.2.2⟩
    go_region_held3 (fun w' => w'.cell? ⟨z, 3, none⟩ = some (.slice (some a) 3 k) ∧ w'.cell? ⟨z + 1, 0, none⟩ = some (.int .i64 day) ∧ w'.cell? ⟨z + 1, 1, none⟩ = some (.slice fa fm fc) ∧ w'.cell? a = some (.int .i64 yo) ∧ w'.cell? ⟨a.block, a.off + 1, none⟩ = some (.int .i64 yn) ∧ w'.cell? ⟨a.block, a.off + 2, none⟩ = some (.string ys) ∧ w'.cell? ⟨a.block, a.off + 3, none⟩ = some (.slice co cm ck))
      (first | exact HSF.out _ HB4.out | exact HSF.out _ (below_mono HB4.out ((Below.refl _ _).alloc (Nat.le_refl _) _) (Nat.le_refl _)) | exact HSF.out _ (((HB4.out.setCell (p := ⟨W.heap.size, 0, none⟩) (Nat.le_refl _) _).setCell (p := ⟨W.heap.size, 1, none⟩) (Nat.le_refl _) _).setCell (p := ⟨W.heap.size, 2, none⟩) (Nat.le_refl _) _) | (go_keep; done))
      (first
        | (go_at_call 66; (with_reducible refine (C0.out _ (HE.out.next HBD.out).bel).mono ?_); rintro e w4 ⟨rfl, hb⟩; have HB4 := Lib.hid (HBD.out.trans hb); clear hb; obtain ⟨⟨n0', n1', n2'⟩, p0, p1, p2⟩ := three_zero w4 (.int .i64 0) (.int .i64 0) (.bool false) 73)
        | (go_at_call 66; (with_reducible refine (C0.out _ (HE.out.next HBA.out.1).bel).mono ?_); rintro e w4 ⟨rfl, hb⟩; have HB4 := Lib.hid (HBA.out.1.trans (hb.mono (by simp))); have HX4 := Lib.hid ((hb.block _ (by simp)).trans HBA.out.2); obtain ⟨n0', n1', n2'⟩ := trio HX4.out; have p0 : w4.frozen? ⟨W.heap.size, 0, none⟩ = false := free_blk HX4.out 0; have p1 : w4.frozen? ⟨W.heap.size, 1, none⟩ = false := free_blk HX4.out 1; have p2 : w4.frozen? ⟨W.heap.size, 2, none⟩ = false := free_blk HX4.out 2; clear hb))
    · go_wp2_with fail
      go_meet
      exact ⟨w4.heap.size, rfl, Lib.hid ⟨below_mono HB4.out ((Below.refl _ _).alloc (Nat.le_refl _) _) (Nat.le_refl _), HB4.out.size, heap_alloc_new _ _⟩⟩
    · go_wp2_with fail
      go_meet
      obtain ⟨k9, _, _, x9⟩ := three_set w4 W.heap.size (.int .i64 r0) (.int .i64 n0) (.bool t0) _ _ ⟨_, _, _, rfl⟩ HX4.out _ rfl
      exact ⟨W.heap.size, rfl, Lib.hid ⟨HB4.out.trans k9, Nat.le_refl _, x9⟩⟩
  case rest =>
    obtain ⟨u, rfl, HU⟩ := hcut
    clear c3 e0 e1 y0 y1 y2 y3
    have HE2 := Lib.hid (HE.out.next HU.out.1)
    have HXU := Lib.hid HU.out.2.2
    have HXB := Lib.hid HE2.out.va
    obtain ⟨k0, k1, k2⟩ := trio HXU.out
    by_cases h3 : r0 = 2
    · subst h3
      cases t0 with
      | true =>
        have HR : Hid (chV v0 v1 v2 = ⟨r1, n1, t1⟩) := Lib.hid (by rw [HV0.out]; exact HV1.out)
        go_upto_region 5 with fail
        have c3 : wc.cell? ⟨z, 3, none⟩ = some (.slice (some a) 3 k) := cell_blk HE2.out.ex 3
        obtain ⟨e0, e1⟩ := duo HE2.out.en
        obtain ⟨y0, y1, y2, y3⟩ := HC1.out wc HE2.out.bel
        have HNE : Hid (z ≠ z + 1 + 1 ∧ z + 1 ≠ z + 1 + 1 ∧ a.block ≠ z + 1 + 1) := Lib.hid ⟨by omega, by omega, by have h1 := HAB.out; have h2 := HE2.out.le; omega⟩
        have HBD : Hid (Below wc.heap.size wc wc.drew) := Lib.hid (Below.refl _ _).drew
        have HSF : Hid (∀ V, Below wc.heap.size wc V → V.cell? ⟨z, 3, none⟩ = some (.slice (some a) 3 k) ∧ V.cell? ⟨z + 1, 0, none⟩ = some (.int .i64 day) ∧ V.cell? ⟨z + 1, 1, none⟩ = some (.slice fa fm fc) ∧ V.cell? ⟨a.block, a.off + 4, none⟩ = some (.int .i64 zo) ∧ V.cell? ⟨a.block, a.off + 4 + 1, none⟩ = some (.int .i64 zn) ∧ V.cell? ⟨a.block, a.off + 4 + 2, none⟩ = some (.string zs) ∧ V.cell? ⟨a.block, a.off + 4 + 3, none⟩ = some (.slice co1 dm ck1)) := Lib.hid fun V hV => ⟨cell_blk (HE2.out.next hV).ex 3, (duo (HE2.out.next hV).en).1, (duo (HE2.out.next hV).en).2, (HC1.out V (HE2.out.next hV).bel).1, (HC1.out V (HE2.out.next hV).bel).2.1, (HC1.out V (HE2.out.next hV).bel).2.2.1, (HC1.out V (HE2.out.next hV).bel).2.2.2⟩
        have HSB : Hid (∀ V, Below wc.heap.size wc V → (((V.setCell ⟨z + 1 + 1, 0, none⟩ (.int .i64 r1)).setCell ⟨z + 1 + 1, 1, none⟩ (.int .i64 n1)).setCell ⟨z + 1 + 1, 2, none⟩ (.bool t1)).cell? ⟨z, 3, none⟩ = some (.slice (some a) 3 k) ∧ (((V.setCell ⟨z + 1 + 1, 0, none⟩ (.int .i64 r1)).setCell ⟨z + 1 + 1, 1, none⟩ (.int .i64 n1)).setCell ⟨z + 1 + 1, 2, none⟩ (.bool t1)).cell? ⟨z + 1, 0, none⟩ = some (.int .i64 day) ∧ (((V.setCell ⟨z + 1 + 1, 0, none⟩ (.int .i64 r1)).setCell ⟨z + 1 + 1, 1, none⟩ (.int .i64 n1)).setCell ⟨z + 1 + 1, 2, none⟩ (.bool t1)).cell? ⟨z + 1, 1, none⟩ = some (.slice fa fm fc) ∧ (((V.setCell ⟨z + 1 + 1, 0, none⟩ (.int .i64 r1)).setCell ⟨z + 1 + 1, 1, none⟩ (.int .i64 n1)).setCell ⟨z + 1 + 1, 2, none⟩ (.bool t1)).cell? ⟨a.block, a.off + 4, none⟩ = some (.int .i64 zo) ∧ (((V.setCell ⟨z + 1 + 1, 0, none⟩ (.int .i64 r1)).setCell ⟨z + 1 + 1, 1, none⟩ (.int .i64 n1)).setCell ⟨z + 1 + 1, 2, none⟩ (.bool t1)).cell? ⟨a.block, a.off + 4 + 1, none⟩ = some (.int .i64 zn) ∧ (((V.setCell ⟨z + 1 + 1, 0, none⟩ (.int .i64 r1)).setCell ⟨z + 1 + 1, 1, none⟩ (.int .i64 n1)).setCell ⟨z + 1 + 1, 2, none⟩ (.bool t1)).cell? ⟨a.block, a.off + 4 + 2, none⟩ = some (.string zs) ∧ (((V.setCell ⟨z + 1 + 1, 0, none⟩ (.int .i64 r1)).setCell ⟨z + 1 + 1, 1, none⟩ (.int .i64 n1)).setCell ⟨z + 1 + 1, 2, none⟩ (.bool t1)).cell? ⟨a.block, a.off + 4 + 3, none⟩ = some (.slice co1 dm ck1)) := Lib.hid fun V hV => ⟨(set3_cell V (z + 1 + 1) _ _ _ (p := ⟨z, 3, none⟩) HNE.out.1).trans (HSF.out V hV).1, (set3_cell V (z + 1 + 1) _ _ _ (p := ⟨z + 1, 0, none⟩) HNE.out.2.1).trans (HSF.out V hV).2.1, (set3_cell V (z + 1 + 1) _ _ _ (p := ⟨z + 1, 1, none⟩) HNE.out.2.1).trans (HSF.out V hV).2.2.1, (set3_cell V (z + 1 + 1) _ _ _ (p := ⟨a.block, a.off + 4, none⟩) HNE.out.2.2).trans (HSF.out V hV).2.2.2.1, (set3_cell V (z + 1 + 1) _ _ _ (p := ⟨a.block, a.off + 4 + 1, none⟩) HNE.out.2.2).trans (HSF.out V hV).2.2.2.2.1, (set3_cell V (z + 1 + 1) _ _ _ (p := ⟨a.block, a.off + 4 + 2, none⟩) HNE.out.2.2).trans (HSF.out V hV).2.2.2.2.2.1, (set3_cell V (z + 1 + 1) _ _ _ (p := ⟨a.block, a.off + 4 + 3, none⟩) HNE.out.2.2).trans (HSF.out V hV).2.2.2.2.2.2⟩
        go_region_held3 (fun w' => w'.cell? ⟨z, 3, none⟩ = some (.slice (some a) 3 k) ∧ w'.cell? ⟨z + 1, 0, none⟩ = some (.int .i64 day) ∧ w'.cell? ⟨z + 1, 1, none⟩ = some (.slice fa fm fc) ∧ w'.cell? ⟨a.block, a.off + 4, none⟩ = some (.int .i64 zo) ∧ w'.cell? ⟨a.block, a.off + 4 + 1, none⟩ = some (.int .i64 zn) ∧ w'.cell? ⟨a.block, a.off + 4 + 2, none⟩ = some (.string zs) ∧ w'.cell? ⟨a.block, a.off + 4 + 3, none⟩ = some (.slice co1 dm ck1))
          (first | exact HSF.out _ HB4.out | exact HSB.out w4 HB4.out | (go_keep; done))
          ((go_at_call 66; (with_reducible refine (C1.out _ (HE2.out.next HBD.out).bel).mono ?_); rintro e w4 ⟨rfl, hb⟩; have HB4 := Lib.hid (HBD.out.trans hb); clear hb; have HX4 := Lib.hid ((HB4.out.block _ (lt_of_heap HXB.out)).trans HXB.out); obtain ⟨n0', n1', n2'⟩ := trio HX4.out; have p0 : w4.frozen? ⟨z + 1 + 1, 0, none⟩ = false := free_blk HX4.out 0; have p1 : w4.frozen? ⟨z + 1 + 1, 1, none⟩ = false := free_blk HX4.out 1; have p2 : w4.frozen? ⟨z + 1 + 1, 2, none⟩ = false := free_blk HX4.out 2))
        go_wp2_with fail
        obtain ⟨W10, hW10⟩ : ∃ X, (((w4.setCell ⟨z + 1 + 1, 0, none⟩ (.int .i64 r1)).setCell ⟨z + 1 + 1, 1, none⟩ (.int .i64 n1)).setCell ⟨z + 1 + 1, 2, none⟩ (.bool t1)) = X := ⟨_, rfl⟩
        obtain ⟨k9, _, _, x9⟩ := three_set w4 (z + 1 + 1) (.int .i64 r1) (.int .i64 n1) (.bool t1) _ _ ⟨_, _, _, rfl⟩ HX4.out W10 hW10
        rw [hW10]
        clear n0' n1' n2' p0 p1 p2
        obtain ⟨d0, d1, d2⟩ := trio x9
        exact bodyPost_ret (v := .agg #[.int .i64 r1, .int .i64 n1, .bool t1]) (by simp [results, Try.results91, go_sem, d0, d1, d2]) rfl ⟨by rw [HR.out], ((HE2.out.bel).trans (HB4.out.mono HE2.out.bel.size)).trans (k9.mono (by have := HE2.out.le; omega))⟩
      | false =>
        have HR : Hid (chV v0 v1 v2 = ⟨r2, n2, t2⟩) := Lib.hid (by rw [HV0.out]; exact HV2.out)
        go_upto_region 6 with fail
        have c3 : wc.cell? ⟨z, 3, none⟩ = some (.slice (some a) 3 k) := cell_blk HE2.out.ex 3
        obtain ⟨e0, e1⟩ := duo HE2.out.en
        obtain ⟨y0, y1, y2, y3⟩ := HC2.out wc HE2.out.bel
        have HNE : Hid (z ≠ z + 1 + 1 ∧ z + 1 ≠ z + 1 + 1 ∧ a.block ≠ z + 1 + 1) := Lib.hid ⟨by omega, by omega, by have h1 := HAB.out; have h2 := HE2.out.le; omega⟩
        have HBD : Hid (Below wc.heap.size wc wc.drew) := Lib.hid (Below.refl _ _).drew
        have HSF : Hid (∀ V, Below wc.heap.size wc V → V.cell? ⟨z, 3, none⟩ = some (.slice (some a) 3 k) ∧ V.cell? ⟨z + 1, 0, none⟩ = some (.int .i64 day) ∧ V.cell? ⟨z + 1, 1, none⟩ = some (.slice fa fm fc) ∧ V.cell? ⟨a.block, a.off + 8, none⟩ = some (.int .i64 uo) ∧ V.cell? ⟨a.block, a.off + 8 + 1, none⟩ = some (.int .i64 un) ∧ V.cell? ⟨a.block, a.off + 8 + 2, none⟩ = some (.string us) ∧ V.cell? ⟨a.block, a.off + 8 + 3, none⟩ = some (.slice co2 um ck2)) := Lib.hid fun V hV => ⟨cell_blk (HE2.out.next hV).ex 3, (duo (HE2.out.next hV).en).1, (duo (HE2.out.next hV).en).2, (HC2.out V (HE2.out.next hV).bel).1, (HC2.out V (HE2.out.next hV).bel).2.1, (HC2.out V (HE2.out.next hV).bel).2.2.1, (HC2.out V (HE2.out.next hV).bel).2.2.2⟩
        have HSB : Hid (∀ V, Below wc.heap.size wc V → (((V.setCell ⟨z + 1 + 1, 0, none⟩ (.int .i64 r2)).setCell ⟨z + 1 + 1, 1, none⟩ (.int .i64 n2)).setCell ⟨z + 1 + 1, 2, none⟩ (.bool t2)).cell? ⟨z, 3, none⟩ = some (.slice (some a) 3 k) ∧ (((V.setCell ⟨z + 1 + 1, 0, none⟩ (.int .i64 r2)).setCell ⟨z + 1 + 1, 1, none⟩ (.int .i64 n2)).setCell ⟨z + 1 + 1, 2, none⟩ (.bool t2)).cell? ⟨z + 1, 0, none⟩ = some (.int .i64 day) ∧ (((V.setCell ⟨z + 1 + 1, 0, none⟩ (.int .i64 r2)).setCell ⟨z + 1 + 1, 1, none⟩ (.int .i64 n2)).setCell ⟨z + 1 + 1, 2, none⟩ (.bool t2)).cell? ⟨z + 1, 1, none⟩ = some (.slice fa fm fc) ∧ (((V.setCell ⟨z + 1 + 1, 0, none⟩ (.int .i64 r2)).setCell ⟨z + 1 + 1, 1, none⟩ (.int .i64 n2)).setCell ⟨z + 1 + 1, 2, none⟩ (.bool t2)).cell? ⟨a.block, a.off + 8, none⟩ = some (.int .i64 uo) ∧ (((V.setCell ⟨z + 1 + 1, 0, none⟩ (.int .i64 r2)).setCell ⟨z + 1 + 1, 1, none⟩ (.int .i64 n2)).setCell ⟨z + 1 + 1, 2, none⟩ (.bool t2)).cell? ⟨a.block, a.off + 8 + 1, none⟩ = some (.int .i64 un) ∧ (((V.setCell ⟨z + 1 + 1, 0, none⟩ (.int .i64 r2)).setCell ⟨z + 1 + 1, 1, none⟩ (.int .i64 n2)).setCell ⟨z + 1 + 1, 2, none⟩ (.bool t2)).cell? ⟨a.block, a.off + 8 + 2, none⟩ = some (.string us) ∧ (((V.setCell ⟨z + 1 + 1, 0, none⟩ (.int .i64 r2)).setCell ⟨z + 1 + 1, 1, none⟩ (.int .i64 n2)).setCell ⟨z + 1 + 1, 2, none⟩ (.bool t2)).cell? ⟨a.block, a.off + 8 + 3, none⟩ = some (.slice co2 um ck2)) := Lib.hid fun V hV => ⟨(set3_cell V (z + 1 + 1) _ _ _ (p := ⟨z, 3, none⟩) HNE.out.1).trans (HSF.out V hV).1, (set3_cell V (z + 1 + 1) _ _ _ (p := ⟨z + 1, 0, none⟩) HNE.out.2.1).trans (HSF.out V hV).2.1, (set3_cell V (z + 1 + 1) _ _ _ (p := ⟨z + 1, 1, none⟩) HNE.out.2.1).trans (HSF.out V hV).2.2.1, (set3_cell V (z + 1 + 1) _ _ _ (p := ⟨a.block, a.off + 8, none⟩) HNE.out.2.2).trans (HSF.out V hV).2.2.2.1, (set3_cell V (z + 1 + 1) _ _ _ (p := ⟨a.block, a.off + 8 + 1, none⟩) HNE.out.2.2).trans (HSF.out V hV).2.2.2.2.1, (set3_cell V (z + 1 + 1) _ _ _ (p := ⟨a.block, a.off + 8 + 2, none⟩) HNE.out.2.2).trans (HSF.out V hV).2.2.2.2.2.1, (set3_cell V (z + 1 + 1) _ _ _ (p := ⟨a.block, a.off + 8 + 3, none⟩) HNE.out.2.2).trans (HSF.out V hV).2.2.2.2.2.2⟩
        go_region_held3 (fun w' => w'.cell? ⟨z, 3, none⟩ = some (.slice (some a) 3 k) ∧ w'.cell? ⟨z + 1, 0, none⟩ = some (.int .i64 day) ∧ w'.cell? ⟨z + 1, 1, none⟩ = some (.slice fa fm fc) ∧ w'.cell? ⟨a.block, a.off + 8, none⟩ = some (.int .i64 uo) ∧ w'.cell? ⟨a.block, a.off + 8 + 1, none⟩ = some (.int .i64 un) ∧ w'.cell? ⟨a.block, a.off + 8 + 2, none⟩ = some (.string us) ∧ w'.cell? ⟨a.block, a.off + 8 + 3, none⟩ = some (.slice co2 um ck2))
          (first | exact HSF.out _ HB4.out | exact HSB.out w4 HB4.out | (go_keep; done))
          ((go_at_call 66; (with_reducible refine (C2.out _ (HE2.out.next HBD.out).bel).mono ?_); rintro e w4 ⟨rfl, hb⟩; have HB4 := Lib.hid (HBD.out.trans hb); clear hb; have HX4 := Lib.hid ((HB4.out.block _ (lt_of_heap HXB.out)).trans HXB.out); obtain ⟨n0', n1', n2'⟩ := trio HX4.out; have p0 : w4.frozen? ⟨z + 1 + 1, 0, none⟩ = false := free_blk HX4.out 0; have p1 : w4.frozen? ⟨z + 1 + 1, 1, none⟩ = false := free_blk HX4.out 1; have p2 : w4.frozen? ⟨z + 1 + 1, 2, none⟩ = false := free_blk HX4.out 2))
        go_wp2_with fail
        obtain ⟨W10, hW10⟩ : ∃ X, (((w4.setCell ⟨z + 1 + 1, 0, none⟩ (.int .i64 r2)).setCell ⟨z + 1 + 1, 1, none⟩ (.int .i64 n2)).setCell ⟨z + 1 + 1, 2, none⟩ (.bool t2)) = X := ⟨_, rfl⟩
        obtain ⟨k9, _, _, x9⟩ := three_set w4 (z + 1 + 1) (.int .i64 r2) (.int .i64 n2) (.bool t2) _ _ ⟨_, _, _, rfl⟩ HX4.out W10 hW10
        rw [hW10]
        clear n0' n1' n2' p0 p1 p2
        obtain ⟨d0, d1, d2⟩ := trio x9
        exact bodyPost_ret (v := .agg #[.int .i64 r2, .int .i64 n2, .bool t2]) (by simp [results, Try.results91, go_sem, d0, d1, d2]) rfl ⟨by rw [HR.out], ((HE2.out.bel).trans (HB4.out.mono HE2.out.bel.size)).trans (k9.mono (by have := HE2.out.le; omega))⟩
    · have f3 : (r0 == 2) = false := by simp [h3]
      have HR : Hid (chV v0 v1 v2 = ⟨r0, n0, t0⟩) := Lib.hid (by unfold chV; rw [if_neg (by rw [HV0.out]; exact h3)]; exact HV0.out)
      go_upto_region 3 with fail
      obtain ⟨q0', q1', q2'⟩ := trio HE2.out.va
      have p0 : wc.frozen? ⟨z + 1 + 1, 0, none⟩ = false := free_blk HE2.out.va 0
      have p1 : wc.frozen? ⟨z + 1 + 1, 1, none⟩ = false := free_blk HE2.out.va 1
      have p2 : wc.frozen? ⟨z + 1 + 1, 2, none⟩ = false := free_blk HE2.out.va 2
      go_wp2_with fail
      have HS9 := Lib.hid (three_set wc (z + 1 + 1) (.int .i64 r0) (.int .i64 n0) (.bool t0) _ _ ⟨_, _, _, rfl⟩ HE2.out.va)
      clear q0' q1' q2' p0 p1 p2
      obtain ⟨W9, hW9⟩ : ∃ X, (((wc.setCell ⟨z + 1 + 1, 0, none⟩ (.int .i64 r0)).setCell ⟨z + 1 + 1, 1, none⟩ (.int .i64 n0)).setCell ⟨z + 1 + 1, 2, none⟩ (.bool t0)) = X := ⟨_, rfl⟩
      obtain ⟨k9, _, _, x9⟩ := HS9.out W9 hW9
      rw [hW9]
      obtain ⟨d0, d1, d2⟩ := trio x9
      exact bodyPost_ret (v := .agg #[.int .i64 r0, .int .i64 n0, .bool t0]) (by simp [results, Try.results91, go_sem, d0, d1, d2]) rfl ⟨by rw [HR.out], HE2.out.bel.trans (k9.mono (by have := HE2.out.le; omega))⟩
end Go.Proofs.Ytidldlhhmophjaa
