/- Layer 22: the document's example. Conditions: those written at each theorem. -/
import Derived.Test.YtidldlhhmophjaaObE
namespace Go.Proofs.Ytidldlhhmophjaa
open Go.RowKit Go.PlainAid Go.Sort
set_option linter.unusedVariables false
set_option linter.unusedSimpArgs false
def xSee : Xp := .mk 16 0 ⟨#[]⟩ [.mk 3 0 ⟨#[83, 80, 88]⟩ [], .mk 1 100 ⟨#[]⟩ []]
def xDay : Xp := .mk 15 0 ⟨#[]⟩ [.mk 4 0 ⟨#[]⟩ [], .mk 2 19723 ⟨#[]⟩ []]
def xBoth : Xp := .mk 17 0 ⟨#[]⟩ [xSee, xDay]
abbrev cSee : Array Value := #[.int .i64 3, .int .i64 0, .string ⟨#[83, 80, 88]⟩, .slice none 0 0, .int .i64 1, .int .i64 100, .string ⟨#[]⟩, .slice none 0 0]
abbrev cDay : Array Value := #[.int .i64 4, .int .i64 0, .string ⟨#[]⟩, .slice none 0 0, .int .i64 2, .int .i64 19723, .string ⟨#[]⟩, .slice none 0 0]
/-- A list of two in one block. -/
theorem two_list {S : Nat → Prop} {w : World} {g : Nat} {x y : Xp} {bo co : Option Addr} {k k' : Nat} (hg : S g) (h : w.heap[g]? = some (.cells #[.int .i64 x.op, .int .i64 x.n, .string x.nm, .slice bo x.args.length k, .int .i64 y.op, .int .i64 y.n, .string y.nm, .slice co y.args.length k'] 34 (0, 0))) (hx : x.args.length ≤ k) (hy : y.args.length ≤ k') (ex : ExL S w x.args bo) (ey : ExL S w y.args co) : ExL S w [x, y] (some ⟨g, 0, none⟩) := by
  refine fun _ => ⟨_, rfl, hg, ExR.mk fun i u hu => ?_⟩
  have ea : ∀ j, (⟨g, 0, none⟩ : Addr).add j = ⟨g, j, none⟩ := fun j => by unfold Addr.add; split <;> simp_all
  rw [ea]
  match i, hu with
  | 0, hu =>
    simp at hu
    subst hu
    exact ⟨bo, k, hx, ⟨cell_blk h 0, cell_blk h 1, cell_blk h 2, cell_blk h 3⟩, ex⟩
  | 1, hu =>
    simp at hu
    subst hu
    exact ⟨co, k', hy, ⟨cell_blk h 4, cell_blk h 5, cell_blk h 6, cell_blk h 7⟩, ey⟩
theorem no_list (S : Nat → Prop) (w : World) (ao : Option Addr) : ExL S w [] ao := fun h => absurd rfl h
def pOps (o a b : Int) : Prop := o = 15 ∨ o = 16
theorem pOps_worked : ∀ o a b, pOps o a b → ∀ w, Calls Try.prog 93 #[.int .i64 o, .int .i64 a, .int .i64 b] w fun e w' => e = .returned (vlV (wkV o a b)) ∧ Below w.heap.size w w' := by
  rintro o a b (rfl | rfl) w
  · exact worked_15 a b w
  · exact worked_16 a b w
theorem both_fit : xBoth.fit := by
  simp [xBoth, xSee, xDay, Xp.fit, Xp.fit.fits, maxLen, ByteArray.size]
theorem both_thin : xBoth.thin := by
  simp [xBoth, xSee, xDay, Xp.thin, Xp.thin.thins]
theorem both_dep : xBoth.dep ≤ 900 := by decide
theorem both_wok (sn : ByteArray → Option Fx) (day : Int) : xBoth.wok pOps sn day := by
  simp [xBoth, xSee, xDay, Xp.wok, Xp.wok.woks, Xp.ev.evs, wokN, pOps]
theorem both_has : xBoth.has = true := by decide +kernel
theorem both_5 : xBoth.evl (fun s => seenF 5 s []) 5 = ⟨2, 0, false⟩ := by
  unfold Xp.evl
  rw [if_pos both_has]
  rfl
theorem both_19723 : xBoth.evl (fun s => seenF 19723 s []) 19723 = ⟨0, 0, false⟩ := by
  unfold Xp.evl
  rw [if_pos both_has]
  rfl
theorem list_box (cs : Array Value) (v0 v1 v2 v3 : Value) (T : TypeId) (w : World) : ∀ W, (w.alloc (.cells cs T)).alloc (.cells #[v0, v1, v2, v3] T) = W → Below w.heap.size w W ∧ W.heap[w.heap.size]? = some (.cells cs T (0, 0)) ∧ W.heap[w.heap.size + 1]? = some (.cells #[v0, v1, v2, v3] T (0, 0)) ∧ W.heap.size = w.heap.size + 2 := by
  rintro W rfl
  have k1 := (Below.refl w.heap.size w).alloc (Nat.le_refl _) (.cells cs T)
  have s1 : (w.alloc (.cells cs T)).heap.size = w.heap.size + 1 := by simp
  have k2 := (Below.refl (w.alloc (.cells cs T)).heap.size (w.alloc (.cells cs T))).alloc (Nat.le_refl _) (.cells #[v0, v1, v2, v3] T)
  refine ⟨below_mono k1 k2 (Nat.le_refl _), (k2.block _ (by omega)).trans (heap_alloc_new w _), ?_, by simp [s1]⟩
  rw [← s1]
  exact heap_alloc_new _ _
set_option maxRecDepth 100000 in
set_option maxHeartbeats 8000000 in
theorem awake_any (w : World) : Calls Try.prog 34 #[] w fun e w' => e = .returned (.bool true) ∧ Below w.heap.size w w' := by
  have GA := Lib.hid (list_box cSee (.int .i64 16) (.int .i64 0) (.string ⟨#[]⟩) (.slice (some ⟨w.heap.size, 0, none⟩) 2 2) 34 w)
  go_enter Try.func34, Try.ntmps34
  obtain ⟨⟨r0, r1, r2, r3⟩, p0, p1, p2, p3⟩ := new_zero (w.alloc (.cells cSee 34)) (.int .i64 0) (.int .i64 0) (.string ⟨#[]⟩) (.slice none 0 0) 34
  go_upto_region 2 with fail
  clear r0 r1 r2 r3 p0 p1 p2 p3
  obtain ⟨z, hz⟩ : ∃ z, z = w.heap.size := ⟨_, rfl⟩
  rw [← hz] at GA
  rw [← hz]
  obtain ⟨W1, hW1⟩ : ∃ X, (w.alloc (.cells cSee 34)).alloc (.cells #[.int .i64 16, .int .i64 0, .string ⟨#[]⟩, .slice (some ⟨z, 0, none⟩) 2 2] 34) = X := ⟨_, rfl⟩
  obtain ⟨g1, b1, b2, sz1⟩ := GA.out W1 hW1
  rw [hW1]
  have HG1 : Hid (Below w.heap.size w W1 ∧ W1.heap[z]? = some (.cells cSee 34 (0, 0)) ∧ W1.heap[z + 1]? = some (.cells #[.int .i64 16, .int .i64 0, .string ⟨#[]⟩, .slice (some ⟨z, 0, none⟩) 2 2] 34 (0, 0)) ∧ z = w.heap.size ∧ W1.heap.size = z + 2) := Lib.hid ⟨hz ▸ g1, b1, b2, hz, sz1⟩
  clear g1 b1 b2 sz1 hW1 GA hz
  have GA := Lib.hid (list_box cDay (.int .i64 15) (.int .i64 0) (.string ⟨#[]⟩) (.slice (some ⟨W1.heap.size, 0, none⟩) 2 2) 34 W1)
  obtain ⟨⟨r0, r1, r2, r3⟩, p0, p1, p2, p3⟩ := new_zero (W1.alloc (.cells cDay 34)) (.int .i64 0) (.int .i64 0) (.string ⟨#[]⟩) (.slice none 0 0) 34
  go_upto_region 3 with fail
  clear r0 r1 r2 r3 p0 p1 p2 p3
  obtain ⟨y, hy⟩ : ∃ y, y = W1.heap.size := ⟨_, rfl⟩
  rw [← hy] at GA
  rw [← hy]
  obtain ⟨W2, hW2⟩ : ∃ X, (W1.alloc (.cells cDay 34)).alloc (.cells #[.int .i64 15, .int .i64 0, .string ⟨#[]⟩, .slice (some ⟨y, 0, none⟩) 2 2] 34) = X := ⟨_, rfl⟩
  obtain ⟨g1, b1, b2, sz1⟩ := GA.out W2 hW2
  rw [hW2]
  have HG2 : Hid (Below W1.heap.size W1 W2 ∧ W2.heap[y]? = some (.cells cDay 34 (0, 0)) ∧ W2.heap[y + 1]? = some (.cells #[.int .i64 15, .int .i64 0, .string ⟨#[]⟩, .slice (some ⟨y, 0, none⟩) 2 2] 34 (0, 0)) ∧ y = W1.heap.size ∧ W2.heap.size = y + 2) := Lib.hid ⟨hy ▸ g1, b1, b2, hy, sz1⟩
  clear g1 b1 b2 sz1 hW2 GA hy
  obtain ⟨l0, l1, l2, l3⟩ := quad HG2.out.2.2.1
  obtain ⟨m0, m1, m2, m3⟩ := quad ((HG2.out.1.block (z + 1) (by have := HG1.out.2.2.2.2; omega)).trans HG1.out.2.2.1)
  have GA := Lib.hid (list_box #[.int .i64 16, .int .i64 0, .string ⟨#[]⟩, .slice (some ⟨z, 0, none⟩) 2 2, .int .i64 15, .int .i64 0, .string ⟨#[]⟩, .slice (some ⟨y, 0, none⟩) 2 2] (.int .i64 17) (.int .i64 0) (.string ⟨#[]⟩) (.slice (some ⟨W2.heap.size, 0, none⟩) 2 2) 34 W2)
  obtain ⟨⟨r0, r1, r2, r3⟩, p0, p1, p2, p3⟩ := new_zero (W2.alloc (.cells #[.int .i64 16, .int .i64 0, .string ⟨#[]⟩, .slice (some ⟨z, 0, none⟩) 2 2, .int .i64 15, .int .i64 0, .string ⟨#[]⟩, .slice (some ⟨y, 0, none⟩) 2 2] 34)) (.int .i64 0) (.int .i64 0) (.string ⟨#[]⟩) (.slice none 0 0) 34
  go_upto_region 4 with fail
  clear r0 r1 r2 r3 p0 p1 p2 p3 l0 l1 l2 l3 m0 m1 m2 m3
  obtain ⟨v, hv⟩ : ∃ v, v = W2.heap.size := ⟨_, rfl⟩
  rw [← hv] at GA
  rw [← hv]
  obtain ⟨W3, hW3⟩ : ∃ X, (W2.alloc (.cells #[.int .i64 16, .int .i64 0, .string ⟨#[]⟩, .slice (some ⟨z, 0, none⟩) 2 2, .int .i64 15, .int .i64 0, .string ⟨#[]⟩, .slice (some ⟨y, 0, none⟩) 2 2] 34)).alloc (.cells #[.int .i64 17, .int .i64 0, .string ⟨#[]⟩, .slice (some ⟨v, 0, none⟩) 2 2] 34) = X := ⟨_, rfl⟩
  obtain ⟨g1, b1, b2, sz1⟩ := GA.out W3 hW3
  rw [hW3]
  have hz := HG1.out.2.2.2
  have hy := HG2.out.2.2.2
  have kz : W3.heap[z]? = some (.cells cSee 34 (0, 0)) := (g1.block z (by omega)).trans ((HG2.out.1.block z (by omega)).trans HG1.out.2.1)
  have ky : W3.heap[y]? = some (.cells cDay 34 (0, 0)) := (g1.block y (by omega)).trans HG2.out.2.1
  have HB3 : Hid (Below w.heap.size w W3) := Lib.hid (below_mono (below_mono HG1.out.1 HG2.out.1 (by omega)) (by rw [hv] at g1; exact g1) (by omega))
  have HX3 : Hid (W3.heap[v + 1]? = some (.cells #[.int .i64 17, .int .i64 0, .string ⟨#[]⟩, .slice (some ⟨v, 0, none⟩) 2 2] 34 (0, 0))) := Lib.hid b2
  have hxl : ExL (fun b => b < W3.heap.size) W3 xBoth.args (some ⟨v, 0, none⟩) :=
    two_list (by omega) b1 (Nat.le_refl 2) (Nat.le_refl 2) (two_list (by omega) kz (Nat.le_refl 0) (Nat.le_refl 0) (no_list _ _ _) (no_list _ _ _)) (two_list (by omega) ky (Nat.le_refl 0) (Nat.le_refl 0) (no_list _ _ _) (no_list _ _ _))
  have CE : Hid (∀ day W, Below W3.heap.size W3 W → Calls Try.prog 41 #[.agg #[.int .i64 17, .int .i64 0, .string ⟨#[]⟩, .slice (some ⟨v, 0, none⟩) 2 2], .agg #[.int .i64 day, .slice none 0 0]] W fun e w' => e = .returned (vlV (xBoth.evl (fun s => seenF day s []) day)) ∧ Below W.heap.size W w') := Lib.hid fun day W h =>
    evalOf_any (S := fun b => b < W3.heap.size) (R := fun _ => False) xBoth (some ⟨v, 0, none⟩) 2 W (fun b hb => Nat.lt_of_lt_of_le hb h.size) (fun b hb => hb.elim) (P := pOps) pOps_worked (F := []) (fa := none) (fc := 0) (day := day) (by simp) (Nat.le_refl 2) (hxl.stay (fun _ h => h) fun b hb => h.block b hb) both_fit both_thin both_dep (fun _ => both_wok _ _) (fun h => absurd rfl h)
  have C5 : Hid (Calls Try.prog 41 #[.agg #[.int .i64 17, .int .i64 0, .string ⟨#[]⟩, .slice (some ⟨v, 0, none⟩) 2 2], .agg #[.int .i64 5, .slice none 0 0]] W3 fun e w' => e = .returned (.agg #[.int .i64 2, .int .i64 0, .bool false]) ∧ Below W3.heap.size W3 w') := Lib.hid (by
    have := CE.out 5 W3 (Below.refl _ _)
    rw [both_5] at this
    exact this)
  have C19 : Hid (∀ W, Below W3.heap.size W3 W → Calls Try.prog 41 #[.agg #[.int .i64 17, .int .i64 0, .string ⟨#[]⟩, .slice (some ⟨v, 0, none⟩) 2 2], .agg #[.int .i64 19723, .slice none 0 0]] W fun e w' => e = .returned (.agg #[.int .i64 0, .int .i64 0, .bool false]) ∧ Below W.heap.size W w') := Lib.hid fun W hW => by
    have := CE.out 19723 W hW
    rw [both_19723] at this
    exact this
  clear CE hxl kz ky hz hy g1 b1 b2 sz1 hW3 hv HG1 HG2 GA
  obtain ⟨c0, c1, c2, c3⟩ := quad HX3.out
  have Q1 : ∀ V, (Op.equalIn 10000 73 (.agg #[.int .i64 2, .int .i64 0, .bool false]) (.agg #[.int .i64 2, .int .i64 0, .bool false])).run Try.prog V = .ok true V := fun V => eq_vl 2 0 2 0 false false V
  have Q2 : ∀ V, (Op.equalIn 10000 73 (.agg #[.int .i64 0, .int .i64 0, .bool false]) (.agg #[.int .i64 0, .int .i64 0, .bool false])).run Try.prog V = .ok true V := fun V => eq_vl 0 0 0 0 false false V
  go_wp2_with (first | (go_at_call 41; (with_reducible refine C5.out.mono ?_); rintro e w4 ⟨rfl, hb⟩; have HB4 := Lib.hid hb; clear hb C5; obtain ⟨d0, d1, d2, d3⟩ := quad ((HB4.out.block (v + 1) (lt_of_heap HX3.out)).trans HX3.out)) | (go_at_call 41; (with_reducible refine (C19.out _ HB4.out).mono ?_); rintro e w5 ⟨rfl, hb⟩; have HB5 := Lib.hid hb; clear hb))
  exact bodyPost_ret (v := .bool true) (by simp [results, Try.results34, go_sem]) rfl ⟨rfl, below_mono (below_mono HB3.out HB4.out (Nat.le_refl _)) HB5.out (Nat.le_refl _)⟩
end Go.Proofs.Ytidldlhhmophjaa
