/- Trees: nodes and depth told; whether an expression is built as it must be. Conditions: those written at each theorem. -/
import Derived.Test.YthhimllddgfddaaTrC
import Derived.Test.YthhimllddgfddaaTmE
namespace Go.Proofs.Ythhimllddgfddaa
open Go.RowKit Go.PlainAid
set_option linter.unusedVariables false
set_option linter.unusedSimpArgs false
theorem Xp.dep_le (x : Xp) : x.dep ≤ x.cnt := by
  induction x using Xp.ind with
  | h x ih =>
    rw [x.cnt_eq, x.dep_eq]
    have : ∀ l : List Xp, (∀ y ∈ l, y.dep ≤ y.cnt) → Xp.dep.deps l ≤ Xp.cnt.cnts l := by
      intro l
      induction l with
      | nil => intro _; simp [Xp.dep.deps]
      | cons a t ih2 =>
        intro h
        have h1 := ih2 fun y hy => h y (List.mem_cons_of_mem _ hy)
        have h2 := h a (List.mem_cons_self ..)
        simp [Xp.cnt.cnts, Xp.dep.deps]
        omega
    have := this _ ih
    omega
theorem deps_le (l : List Xp) : Xp.dep.deps l ≤ Xp.cnt.cnts l := by
  induction l with
  | nil => simp [Xp.dep.deps]
  | cons a t ih =>
    have h2 := a.dep_le
    simp [Xp.cnt.cnts, Xp.dep.deps]
    omega
theorem Tr.dep_le (x : Tr) : x.dep ≤ x.cnt := by
  induction x using Tr.ind with
  | h x ih =>
    rw [x.cnt_eq, x.dep_eq]
    have : ∀ l : List Tr, (∀ y ∈ l, y.dep ≤ y.cnt) → Tr.dep.deps l ≤ Tr.cnt.cnts l := by
      intro l
      induction l with
      | nil => intro _; simp [Tr.dep.deps]
      | cons a t ih2 =>
        intro h
        have h1 := ih2 fun y hy => h y (List.mem_cons_of_mem _ hy)
        have h2 := h a (List.mem_cons_self ..)
        simp [Tr.cnt.cnts, Tr.dep.deps]
        omega
    have := this _ ih
    have := deps_le x.exprs
    omega
set_option maxRecDepth 100000 in
set_option maxHeartbeats 4000000 in
theorem size_any {S : Nat → Prop} (x : Tr) (eo : Option Addr) (ek : Nat) (tb : Option Addr) (tk : Nat) (w : World) (hS : ∀ b, S b → b < w.heap.size) (hk : x.exprs.length ≤ ek) (hk2 : x.terms.length ≤ tk) (hx : ExL S w x.exprs eo) (hx2 : TrL S w x.terms tb) (hn : x.cnt < 1000) :
    Calls Try.prog 8 #[trV x eo ek tb tk] w fun e w' => e = .returned (.tuple #[.int .i64 x.cnt, .int .i64 x.dep]) ∧ Below w.heap.size w w' := by
  have hde := x.dep_le
  obtain ⟨z, hz⟩ : ∃ z, z = w.heap.size := ⟨_, rfl⟩
  obtain ⟨q, hq⟩ : ∃ q, q = w.heap.size + 1 := ⟨_, rfl⟩
  obtain ⟨xo, hxo⟩ : ∃ v, v = x.op := ⟨_, rfl⟩
  obtain ⟨xs, hxs⟩ : ∃ v, v = x.nm := ⟨_, rfl⟩
  obtain ⟨m, hm⟩ : ∃ m, m = x.exprs.length := ⟨_, rfl⟩
  obtain ⟨m2, hm2⟩ : ∃ m, m = x.terms.length := ⟨_, rfl⟩
  have CM : Hid (∀ W, Below w.heap.size w W → MAt q 0 0 W → Calls Try.prog 19 #[.pointer (some ⟨q, 0, none⟩), trV x eo ek tb tk, .int .i64 1] W fun e w' => e = .returned (.bool true) ∧ MAt q x.cnt x.dep w' ∧ W.grownBy w' (some q)) := Lib.hid fun W hB hW => by
    have hst : ∀ b, S b → W.heap[b]? = w.heap[b]? := fun b hb => hB.block b (hS b hb)
    have := mterm_any hS (q := q) (by omega) x 0 0 1 eo ek tb tk W hW hk hk2 (hx.stay (fun _ h => h) hst) (hx2.stay (fun _ h => h) hst) (by omega) (by omega) (by omega)
    rw [show max 0 (1 + x.dep - 1) = x.dep from by omega, Nat.zero_add] at this
    exact this
  have hxe : trV x eo ek tb tk = .agg #[.int .i64 xo, .string xs, .slice eo m ek, .slice tb m2 tk] := by rw [hm, hm2, hxo, hxs]
  rw [hxe] at CM ⊢
  have GA : Hid (∀ W, (w.alloc (.cells #[.int .i64 xo, .string xs, .slice eo m ek, .slice tb m2 tk] 32)).alloc (.cells #[.int .i64 0, .int .i64 0] 62) = W → MAt q 0 0 W ∧ W.heap[z]? = some (.cells #[.int .i64 xo, .string xs, .slice eo m ek, .slice tb m2 tk] 32 (0, 0)) ∧ Below w.heap.size w W ∧ w.heap.size + 2 = W.heap.size) := Lib.hid (by
    rintro W rfl
    have h1 : (w.alloc (.cells #[.int .i64 xo, .string xs, .slice eo m ek, .slice tb m2 tk] 32)).heap.size = w.heap.size + 1 := by simp
    refine ⟨?_, ?_, ((Below.refl w.heap.size w).alloc (Nat.le_refl _) _).alloc (by omega) _, by simp⟩
    · rw [hq, ← h1]; exact heap_alloc_new _ _
    · rw [hz]
      exact (((Below.refl _ _).alloc (Nat.le_refl _) _).block w.heap.size (by omega)).trans (heap_alloc_new w _))
  have HQ := Lib.hid hq
  obtain ⟨cn, hcn⟩ : ∃ v, v = x.cnt := ⟨_, rfl⟩
  obtain ⟨dn, hdn⟩ : ∃ v, v = x.dep := ⟨_, rfl⟩
  rw [← hcn, ← hdn] at CM ⊢
  clear hx hx2 hk hk2 hn hde hxo hxs hm hm2 hxe hcn hdn
  go_enter Try.func8, Try.ntmps8
  go_upto_region 2 with fail
  obtain ⟨W, hW⟩ : ∃ x, (w.alloc (.cells #[.int .i64 xo, .string xs, .slice eo m ek, .slice tb m2 tk] 32)).alloc (.cells #[.int .i64 0, .int .i64 0] 62) = x := ⟨_, rfl⟩
  rw [hW, ← hz, show z + 1 = q from by omega]
  obtain ⟨m1, b1, g1, l1⟩ := GA.out W hW
  have HM := Lib.hid m1
  have HG := Lib.hid (And.intro g1 l1)
  obtain ⟨c0, c1, c2, c3⟩ := quad b1
  clear hW m1 b1 g1 l1 GA hz hq
  go_upto_region 4 with (go_at_call 19; (with_reducible refine (CM.out _ HG.out.1 HM.out).mono ?_); rintro e w2 ⟨rfl, h1, h2⟩; have HM2 := Lib.hid h1; have HG2 := Lib.hid h2; clear h1 h2)
  have d0 : w2.cell? ⟨q, 0, none⟩ = some (.int .i64 cn) := cell_blk HM2.out 0
  have d1 : w2.cell? ⟨q, 1, none⟩ = some (.int .i64 dn) := cell_blk HM2.out 1
  have HE := Lib.hid (HG.out.1.grown HG2.out (by have := HG.out.2; omega) (fun g hg => by cases hg; have := HQ.out; omega))
  clear c0 c1 c2 c3
  go_quiet (fail)
  go_wp2_with fail
  go_ret2
  exact ⟨rfl, below_drewN HE.out _⟩
set_option maxRecDepth 100000 in
set_option maxHeartbeats 4000000 in
theorem fits_any (n d : Nat) (hn : n < 1000) (hd : d < 1000) (w : World) : Calls Try.prog 26 #[.int .i64 n, .int .i64 d] w fun e w' => e = .returned (.bool (decide (n ≤ 200) && decide (d ≤ 16))) ∧ w = w' := by
  by_cases h1 : n ≤ 200
  · have e1 : (n : Int) ≤ 200 := by omega
    by_cases h2 : d ≤ 16
    · have e2 : (d : Int) ≤ 16 := by omega
      go_enter Try.func26, Try.ntmps26
      go_wp2_with fail
      go_ret
      exact ⟨by simp [h1, h2], rfl⟩
    · have e2 : decide ((d : Int) ≤ 16) = false := by simp; omega
      go_enter Try.func26, Try.ntmps26
      go_wp2_with fail
      go_ret
      exact ⟨by simp [h2]; try omega, rfl⟩
  · have e1 : decide ((n : Int) ≤ 200) = false := by simp; omega
    have e3 : ((n : Int) ≤ 200) = False := by simp; omega
    go_enter Try.func26, Try.ntmps26
    go_wp2_with fail
    go_ret
    exact ⟨by simp [h1]; try omega, rfl⟩
/-- How many expressions stand within one of that op. -/
def kidsX (op : Int) : Int := if op = 1 ∨ op = 2 ∨ op = 3 ∨ op = 4 then 0 else if 5 ≤ op ∧ op ≤ 18 then 2 else if op = 19 ∨ op = 20 then 1 else if op = 21 then 3 else -1
/-- Is one node of an expression built as it must be? -/
def okX (op n : Int) (s : ByteArray) (k : Nat) : Bool :=
  decide ((k : Int) = kidsX op) && (if op = 3 then fre s && decide (n = 0) else decide (s.toList = []) && (if op = 1 then decide (0 ≤ n) else if op = 2 then decide (0 ≤ n) && decide (n ≤ 2932896) else decide (n = 0)))
def Xp.blt : Xp → Bool
  | .mk o n s l => okX o n s l.length && blts l
where blts : List Xp → Bool
  | [] => true
  | x :: t => x.blt && blts t
theorem Xp.blt_eq (x : Xp) : x.blt = (okX x.op x.n x.nm x.args.length && Xp.blt.blts x.args) := by cases x; rfl
theorem blts_all (l : List Xp) : Xp.blt.blts l = l.all Xp.blt := by
  induction l with
  | nil => rfl
  | cons x t ih => simp [Xp.blt.blts, ih]
/-- All names are of a length that a text may have. -/
def Xp.fit : Xp → Prop
  | .mk _ _ s l => s.size ≤ maxLen ∧ fits l
where fits : List Xp → Prop
  | [] => True
  | x :: t => x.fit ∧ fits t
theorem Xp.fit_eq (x : Xp) : x.fit ↔ x.nm.size ≤ maxLen ∧ Xp.fit.fits x.args := by cases x; exact Iff.rfl
theorem xfits_all (l : List Xp) : Xp.fit.fits l ↔ ∀ y ∈ l, y.fit := by
  induction l with
  | nil => simp [Xp.fit.fits]
  | cons x t ih => simp [Xp.fit.fits, ih]
end Go.Proofs.Ythhimllddgfddaa
