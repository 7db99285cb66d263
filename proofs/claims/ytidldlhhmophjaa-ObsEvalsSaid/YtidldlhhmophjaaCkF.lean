/- Layer 21: constants, two rows that grow beside one another, the program's fold. Conditions: those written at each theorem. -/
import Derived.Test.YtidldlhhmophjaaCkP
import Derived.Test.YtidldlhhmophjaaTrU
import Derived.Test.YtidldlhhmophjaaTrK
namespace Go.Proofs.Ytidldlhhmophjaa
open Go.RowKit Go.PlainAid Go.Sort
set_option linter.unusedVariables false
set_option linter.unusedSimpArgs false
/-- Is it a constant, and which. -/
def Xp.cB (x : Xp) : Bool := if x.op = 1 ∨ x.op = 2 then true else match x.args with | [] => false | y :: _ => decide (x.op = 20 ∧ y.op = 1)
def Xp.cV (x : Xp) : Int := if x.op = 1 ∨ x.op = 2 then x.n else match x.args with | [] => 0 | y :: _ => if x.op = 20 ∧ y.op = 1 then IntKind.i64.wrap (-y.n) else 0
set_option maxRecDepth 100000 in
set_option maxHeartbeats 8000000 in
theorem constant_any {S : Nat → Prop} (x : Xp) (bo : Option Addr) (k : Nat) (w : World) (hS : ∀ b, S b → b < w.heap.size) (hx : ExL S w x.args bo) (h20 : x.op = 20 → x.args ≠ []) (hk : x.args.length ≤ k) :
    Calls Try.prog 83 #[exV x bo k] w fun e w' => e = .returned (.tuple #[.int .i64 x.cV, .bool x.cB]) ∧ Below w.heap.size w w' := by
  obtain ⟨m, hm⟩ : ∃ m, m = x.args.length := ⟨_, rfl⟩
  obtain ⟨xo, hxo⟩ : ∃ v, v = x.op := ⟨_, rfl⟩
  obtain ⟨xn, hxn⟩ : ∃ v, v = x.n := ⟨_, rfl⟩
  obtain ⟨xs, hxs⟩ : ∃ v, v = x.nm := ⟨_, rfl⟩
  rw [show exV x bo k = .agg #[.int .i64 xo, .int .i64 xn, .string xs, .slice bo m k] from by rw [hm, hxo, hxn, hxs]]
  have HM := Lib.hid (And.intro hm (And.intro hxo hxn))
  have GA := Lib.hid (fun W (hW : w.alloc (.cells #[.int .i64 xo, .int .i64 xn, .string xs, .slice bo m k] 34) = W) => (⟨(made_box w _ W hW).1.2, by rw [← hW]; exact heap_alloc_new w _⟩ : Below w.heap.size w W ∧ W.heap[w.heap.size]? = some (.cells #[.int .i64 xo, .int .i64 xn, .string xs, .slice bo m k] 34 (0, 0))))
  have HX : Hid (∀ W, Below w.heap.size w W → ExL S W x.args bo) := Lib.hid fun W hW => hx.stay (fun _ h => h) fun b hb => hW.block b (hS b hb)
  have HK : Hid (x.op = 20 → x.args ≠ []) := Lib.hid h20
  clear hm hxo hxn hxs hx h20 hk
  go_enter Try.func83, Try.ntmps83
  go_upto_region 1 with fail
  obtain ⟨W, hW⟩ : ∃ X, w.alloc (.cells #[.int .i64 xo, .int .i64 xn, .string xs, .slice bo m k] 34) = X := ⟨_, rfl⟩
  obtain ⟨g1, b1⟩ := GA.out W hW
  obtain ⟨z, hz⟩ : ∃ z, z = w.heap.size := ⟨_, rfl⟩
  rw [hW, ← hz]
  rw [← hz] at b1
  have HG := Lib.hid g1
  obtain ⟨c0, c1, c2, c3⟩ := quad b1
  clear hW g1 b1 GA hz
  by_cases h1 : xo = 1
  · have HR : Hid (x.cV = xn ∧ x.cB = true) := Lib.hid (by obtain ⟨h5, h6, h7⟩ := HM.out; unfold Xp.cV Xp.cB; rw [← h6, ← h7]; simp [h1])
    go_wp2_with fail
    exact bodyPost_ret (v := .tuple #[.int .i64 xn, .bool true]) (by simp [results, Try.results83, go_sem]) rfl ⟨by rw [HR.out.1, HR.out.2], HG.out⟩
  · by_cases h2 : xo = 2
    · have HR : Hid (x.cV = xn ∧ x.cB = true) := Lib.hid (by obtain ⟨h5, h6, h7⟩ := HM.out; unfold Xp.cV Xp.cB; rw [← h6, ← h7]; simp [h2])
      go_wp2_with fail
      exact bodyPost_ret (v := .tuple #[.int .i64 xn, .bool true]) (by simp [results, Try.results83, go_sem]) rfl ⟨by rw [HR.out.1, HR.out.2], HG.out⟩
    · by_cases h3 : xo = 20
      · obtain ⟨y, hy⟩ : ∃ y, x.args[0]? = some y := by
          have := HK.out (by rw [← HM.out.2.1]; exact h3)
          match hl : x.args, this with
          | y :: t, _ => exact ⟨y, rfl⟩
        obtain ⟨a, co, ck, rfl, hsa, hck, ⟨y0, y1, y2, y3⟩, hyl⟩ := (HX.out W HG.out).get hy
        rw [show (0 : Nat) * 4 = 0 from rfl, addr_zero] at y0 y1 y2 y3
        have m1 : (0 : Int) < (m : Int) := by
          have h6 := (List.getElem?_eq_some_iff.1 hy).1
          rw [← HM.out.1] at h6
          omega
        have m2 : 0 < m := by omega
        obtain ⟨yo, hyo⟩ : ∃ v, v = y.op := ⟨_, rfl⟩
        obtain ⟨yn, hyn⟩ : ∃ v, v = y.n := ⟨_, rfl⟩
        rw [← hyo] at y0
        rw [← hyn] at y1
        have HY := Lib.hid (And.intro hy (And.intro hyo hyn))
        clear hy hyo hyn hsa hck hyl y2 y3
        by_cases h4 : yo = 1
        · have HR : Hid (x.cV = IntKind.i64.wrap (-yn) ∧ x.cB = true) := Lib.hid (by
            obtain ⟨h5, h6, h7⟩ := HM.out
            obtain ⟨k5, k6, k7⟩ := HY.out
            match hl : x.args, k5 with
            | y :: t, e =>
              simp at e
              subst e
              unfold Xp.cV Xp.cB
              rw [← h6, hl]
              simp [h3, ← k6, ← k7, h4])
          obtain ⟨ng, hng⟩ : ∃ v, v = IntKind.i64.wrap (-yn) := ⟨_, rfl⟩
          have HR' := HR.out
          rw [← hng] at HR'
          have HR2 := Lib.hid HR'
          have y9 : IntKind.i64.wrap (-yn) = ng := hng.symm
          clear HR HR' hng
          go_wp2_with fail
          exact bodyPost_ret (v := .tuple #[.int .i64 ng, .bool true]) (by simp [results, Try.results83, go_sem]) rfl ⟨by rw [HR2.out.1, HR2.out.2], HG.out⟩
        · have HR : Hid (x.cV = 0 ∧ x.cB = false) := Lib.hid (by
            obtain ⟨h5, h6, h7⟩ := HM.out
            obtain ⟨k5, k6, k7⟩ := HY.out
            match hl : x.args, k5 with
            | y :: t, e =>
              simp at e
              subst e
              unfold Xp.cV Xp.cB
              rw [← h6, hl]
              simp [h3, ← k6, ← k7, h4])
          go_wp2_with fail
          exact bodyPost_ret (v := .tuple #[.int .i64 0, .bool false]) (by simp [results, Try.results83, go_sem]) rfl ⟨by rw [HR.out.1, HR.out.2], HG.out⟩
      · have HR : Hid (x.cV = 0 ∧ x.cB = false) := Lib.hid (by
          obtain ⟨h5, h6, h7⟩ := HM.out
          unfold Xp.cV Xp.cB
          rw [← h6, if_neg (by omega), if_neg (by omega)]
          match x.args with
          | [] => exact ⟨rfl, rfl⟩
          | y :: t => simp [h3])
        have f1 : (xo == 1) = false := by simp [h1]
        have f2 : (xo == 2) = false := by simp [h2]
        have f3 : (xo == 20) = false := by simp [h3]
        clear h1 h2 h3
        go_wp2_with fail
        exact bodyPost_ret (v := .tuple #[.int .i64 0, .bool false]) (by simp [results, Try.results83, go_sem]) rfl ⟨by rw [HR.out.1, HR.out.2], HG.out⟩
theorem i64Info : (Try.prog.info? 2).map (fun i => (i.zero, i.size, i.bytes)) = some (some (.int .i64 0), 1, 8) := by kernel_rfl
/-- append(l, n), of a number in a new block. -/
theorem wpList_app64 {w : World} {ops : Array Oper} {rest : List Oper} {o : Oper} {a : Act} {Q : Exit → Act → World → Prop} (hgd : o.guard = none) (s x : Operand)
    (ho : o.op = .call { callee := .builtin .append, args := #[s, x], argTypes := #[95, 95] })
    (B : Nat) (v : Value) (n : Nat) (vs : List Value) (hs : a.eval s = v) (hown : w.ownsRow B 2 1 v n vs) (g : Nat) (f : Int) (hx : a.eval x = .slice (some ⟨g, 0, none⟩) 1 1)
    (hc : w.heap[g]? = some (.cells #[.int .i64 f] 2 (0, 0))) (hl : n ≤ 1000) (hB : B ≤ w.heap.size)
    (h : ∀ g' cap w', w'.ownsRow B 2 1 (.slice (some ⟨g', 0, none⟩) (n + 1) cap) (n + 1) (vs ++ [.int .i64 f]) → w.grownBy w' v.ownBlock → (v.ownBlock = some g' ∨ g' = w.heap.size) → g' < w'.heap.size → wpList Try.prog ops Q rest (a.put o.dst (.slice (some ⟨g', 0, none⟩) (n + 1) cap)) w') :
    wpList Try.prog ops Q (o :: rest) a w := by
  obtain ⟨i, hi, hz0, hz1, hz2⟩ := info_parts i64Info
  refine wpList_plain hgd fun _ hK => wp_append_lies w s x 95 ho B 2 i (.int .i64 0) 1 8 Try.underlying95 hi hz0 hz1 hz2 rfl (by decide) v n vs hs hown ⟨g, 0, none⟩ 1 1 [.int .i64 f] hx rfl ?_ ?_ (by decide) ?_ ?_ hB _ rfl ?_
  · intro j u hj
    match j, hj with
    | 0, hj => simp at hj; subst hj; exact cell_blk hc 0
  · intro u hu
    simp at hu
    subst hu
    rfl
  · unfold maxLen; omega
  · omega
  · intro g' cap w' h1 h2 h3 h4
    exact hK _ _ (h g' cap w' h1 h2 h3 h4)
/-- The blocks in which the trees of a row stand, beside rows that grow. -/
def RK (S : Nat → Prop) (B : Nat) (P : Nat → Prop) (w : World) : Nat → Prop := fun b => S b ∨ (B ≤ b ∧ b < w.heap.size ∧ ¬ P b)
theorem rk_lt {S P : Nat → Prop} {B : Nat} {w : World} (hS : ∀ b, S b → b < B) (hB : B ≤ w.heap.size) : ∀ b, RK S B P w b → b < w.heap.size := fun b hb => by
  rcases hb with h | ⟨_, h, _⟩
  · exact Nat.lt_of_lt_of_le (hS b h) hB
  · exact h
theorem rk_push {S P P' : Nat → Prop} {B : Nat} {w w' : World} (hP : ∀ b, P' b → P b ∨ w.heap.size ≤ b) (hs : w.heap.size ≤ w'.heap.size) : ∀ b, RK S B P w b → RK S B P' w' b := fun b hb => by
  rcases hb with h | ⟨h1, h2, h3⟩
  · exact .inl h
  · exact .inr ⟨h1, Nat.lt_of_lt_of_le h2 hs, fun h => (hP b h).elim h3 fun h => by omega⟩
theorem rk_keep {S P : Nat → Prop} {B : Nat} {w w' : World} {own : Option Nat} (hS : ∀ b, S b → b < B) (hB : B ≤ w.heap.size) (hg : w.grownBy w' own) (hP : ∀ g, own = some g → P g ∧ B ≤ g) : ∀ b, RK S B P w b → w'.heap[b]? = w.heap[b]? := fun b hb => by
  refine hg.block b (rk_lt hS hB b hb) fun e => ?_
  have h := hP b e.symm
  rcases hb with h1 | ⟨_, _, h3⟩
  · have := hS b h1; omega
  · exact h3 h.1
/-- The folded operands, and those of their values that are known, in two rows. -/
structure FoB (S : Nat → Prop) (B : Nat) (v u : Value) (ls : List Xp) (vs : List Int) (qs : List Q4) (w : World) : Prop where
  len : qs.length = ls.length
  row : Row4 w B 34 v qs
  ints : w.ownsRow B 2 1 u vs.length (vs.map (Value.int .i64))
  fits : Fits (QX (RK S B (fun b => v.ownBlock = some b ∨ u.ownBlock = some b) w) w) ls qs
theorem ints_lt {w : World} {B n : Nat} {T : TypeId} {u : Value} {vs : List Value} (h : w.ownsRow B T 1 u n vs) {g : Nat} (hg : u.ownBlock = some g) : g < w.heap.size ∧ B ≤ g := by
  rcases h.2 with ⟨rfl, h0⟩ | ⟨g', cap, cur, rfl, hb, hgg, _⟩
  · cases hg
  · cases hg
    exact ⟨lt_of_heap hgg, hb⟩
theorem two_apart {w : World} {B n : Nat} {v u : Value} {qs : List Q4} {vs : List Value} (h : Row4 w B 34 v qs) (k : w.ownsRow B 2 1 u n vs) {g : Nat} (hg : v.ownBlock = some g) : u.ownBlock ≠ some g := by
  intro hu
  rcases h.2 with ⟨rfl, h0⟩ | ⟨g', cap, cur, rfl, hb, hgg, _⟩
  · cases hg
  · rcases k.2 with ⟨rfl, k0⟩ | ⟨g2, cap2, cur2, rfl, kb, kgg, _⟩
    · cases hu
    · cases hg
      cases hu
      rw [hgg] at kgg
      injection kgg with e
      injection e with _ e2
      exact absurd e2 (by decide)
theorem FoB.stay {S : Nat → Prop} {B : Nat} {v u : Value} {ls : List Xp} {vs : List Int} {qs : List Q4} {w w' : World} (h : FoB S B v u ls vs qs w) (hS : ∀ b, S b → b < B) (hB : B ≤ w.heap.size) (hs : w.heap.size ≤ w'.heap.size) (hh : ∀ b, b < w.heap.size → (S b ∨ B ≤ b) → w'.heap[b]? = w.heap[b]?) : FoB S B v u ls vs qs w' :=
  ⟨h.len, h.row.stay fun g hg => hh g (h.row.lt hg).1 (.inr (h.row.lt hg).2), row_stay h.ints fun g hg => hh g (ints_lt h.ints hg).1 (.inr (ints_lt h.ints hg).2), h.fits.imp fun x q hq => hq.stay (rk_push (fun b hb => .inl hb) hs) fun b hb => hh b (rk_lt hS hB b hb) (hb.imp id fun h => h.1)⟩
/-- One more operand. -/
theorem FoB.push {S S' : Nat → Prop} {B g' n cap : Nat} {v u : Value} {ls : List Xp} {vs : List Int} {qs : List Q4} {w w' : World} {y : Xp} {q : Q4} (h : FoB S B v u ls vs qs w) (hS : ∀ b, S b → b < B) (hB : B ≤ w.heap.size)
    (hown : Row4 w' B 34 (.slice (some ⟨g', 0, none⟩) n cap) (qs ++ [q])) (hg : w.grownBy w' v.ownBlock) (hor : v.ownBlock = some g' ∨ g' = w.heap.size) (hq : QX S' w y q) (hS' : ∀ b, S' b → b < w.heap.size ∧ (S b ∨ (B ≤ b ∧ v.ownBlock ≠ some b ∧ u.ownBlock ≠ some b))) :
    FoB S B (.slice (some ⟨g', 0, none⟩) n cap) u (ls ++ [y]) vs (qs ++ [q]) w' := by
  have hP : ∀ b, ((Value.slice (some ⟨g', 0, none⟩) n cap).ownBlock = some b ∨ u.ownBlock = some b) → (v.ownBlock = some b ∨ u.ownBlock = some b) ∨ w.heap.size ≤ b := by
    rintro b (e | e)
    · have e2 : g' = b := by injection e
      rcases hor with e | e
      · exact .inl (.inl (by rw [← e2]; exact e))
      · exact .inr (by omega)
    · exact .inl (.inr e)
  have hK := rk_keep (S := S) (P := fun b => v.ownBlock = some b ∨ u.ownBlock = some b) hS hB hg fun g e => ⟨.inl e, (h.row.lt e).2⟩
  refine ⟨by simp [h.len], hown, row_stay h.ints fun g e => hg.block g (ints_lt h.ints e).1 fun e2 => two_apart h.row h.ints e2.symm e, Fits.snoc (h.fits.imp fun x q hq => hq.stay (rk_push hP hg.size) hK) ?_⟩
  have hT : ∀ b, S' b → RK S B (fun b => v.ownBlock = some b ∨ u.ownBlock = some b) w b := fun b hb => by
    obtain ⟨h1, h2 | ⟨h2, h3, h4⟩⟩ := hS' b hb
    · exact .inl h2
    · exact .inr ⟨h2, h1, fun h => h.elim h3 h4⟩
  exact (hq.stay hT fun _ _ => rfl).stay (rk_push hP hg.size) hK
/-- One more value. -/
theorem FoB.put {S : Nat → Prop} {B g' cap : Nat} {v u : Value} {ls : List Xp} {vs : List Int} {qs : List Q4} {w w' : World} {f : Int} (h : FoB S B v u ls vs qs w) (hS : ∀ b, S b → b < B) (hB : B ≤ w.heap.size)
    (hown : w'.ownsRow B 2 1 (.slice (some ⟨g', 0, none⟩) (vs.length + 1) cap) (vs.length + 1) (vs.map (Value.int .i64) ++ [.int .i64 f])) (hg : w.grownBy w' u.ownBlock) (hor : u.ownBlock = some g' ∨ g' = w.heap.size) :
    FoB S B v (.slice (some ⟨g', 0, none⟩) (vs.length + 1) cap) ls (vs ++ [f]) qs w' := by
  have hP : ∀ b, (v.ownBlock = some b ∨ (Value.slice (some ⟨g', 0, none⟩) (vs.length + 1) cap).ownBlock = some b) → (v.ownBlock = some b ∨ u.ownBlock = some b) ∨ w.heap.size ≤ b := by
    rintro b (e | e)
    · exact .inl (.inl e)
    · have e2 : g' = b := by injection e
      rcases hor with e | e
      · exact .inl (.inr (by rw [← e2]; exact e))
      · exact .inr (by omega)
  have hK := rk_keep (S := S) (P := fun b => v.ownBlock = some b ∨ u.ownBlock = some b) hS hB hg fun g e => ⟨.inr e, (ints_lt h.ints e).2⟩
  refine ⟨h.len, h.row.stay fun g e => hg.block g (h.row.lt e).1 fun e2 => two_apart h.row h.ints e e2.symm, ?_, h.fits.imp fun x q hq => hq.stay (rk_push hP hg.size) hK⟩
  rw [List.length_append, List.map_append]
  exact hown
/-- The operands as a list in memory. -/
theorem FoB.list {S : Nat → Prop} {B n c : Nat} {va : Option Addr} {u : Value} {ls : List Xp} {vs : List Int} {qs : List Q4} {w : World} (h : FoB S B (.slice va n c) u ls vs qs w) : ExL (fun b => S b ∨ (B ≤ b ∧ b < w.heap.size)) w ls va :=
  (h.row.toX h.fits).stay (fun b hb => by
    rcases hb with (hb | ⟨h1, h2, _⟩) | hb
    · exact .inl hb
    · exact .inr ⟨h1, h2⟩
    · exact .inr ⟨(h.row.lt hb).2, (h.row.lt hb).1⟩) fun _ _ => rfl
theorem one_list {S : Nat → Prop} {w : World} {g : Nat} {x : Xp} {co : Option Addr} {k : Nat} (hg : S g) (h : w.heap[g]? = some (.cells #[.int .i64 x.op, .int .i64 x.n, .string x.nm, .slice co x.args.length k] 34 (0, 0))) (hx : x.args.length ≤ k) (ex : ExL S w x.args co) : ExL S w [x] (some ⟨g, 0, none⟩) := by
  refine fun _ => ⟨_, rfl, hg, ExR.mk fun i u hu => ?_⟩
  have ea : ∀ j, (⟨g, 0, none⟩ : Addr).add j = ⟨g, j, none⟩ := fun j => by unfold Addr.add; split <;> simp_all
  rw [ea]
  match i, hu with
  | 0, hu =>
    simp at hu
    subst hu
    exact ⟨co, k, hx, ⟨cell_blk h 0, cell_blk h 1, cell_blk h 2, cell_blk h 3⟩, ex⟩
end Go.Proofs.Ytidldlhhmophjaa
namespace Go.Proofs.Ytidldlhhmophjaa
open Go.RowKit Go.PlainAid Go.Sort
set_option linter.unusedVariables false
set_option linter.unusedSimpArgs false
/-- The values of the constants among them. -/
def fvs (l : List Xp) : List Int := (l.filter Xp.cB).map Xp.cV
theorem fvs_yes {l : List Xp} {y : Xp} (h : y.cB = true) : fvs (l ++ [y]) = fvs l ++ [y.cV] := by simp [fvs, List.filter_append, h]
theorem fvs_no {l : List Xp} {y : Xp} (h : y.cB = false) : fvs (l ++ [y]) = fvs l := by simp [fvs, List.filter_append, h]
theorem fvs_le (l : List Xp) : (fvs l).length ≤ l.length := by
  unfold fvs
  rw [List.length_map]
  exact List.length_filter_le _ _
def okI (z : Int) : Option Int := if -9223372036854775808 ≤ z ∧ z ≤ 9223372036854775807 then some z else none
/-- What an op makes of constants. -/
def wkO (o : Int) (vs : List Int) : Option Int :=
  match vs with
  | [a] => if o = 20 then okI (-a) else none
  | [a, b] => if o = 5 then okI (a + b) else if o = 6 then okI (a - b) else if o = 7 then okI (a * b) else if o = 8 then (if b = 0 then none else okI (a.fdiv b)) else if o = 9 then some (min a b) else if o = 10 then some (max a b) else none
  | _ => none
/-- A node whose operands are constants, by its value. -/
def foV (o n : Int) (s : ByteArray) (l : List Xp) : Option Int → Xp
  | none => .mk o n s l
  | some v => if v = -9223372036854775808 then .mk o n s l else if v < 0 then .mk 20 0 ⟨#[]⟩ [.mk 1 (IntKind.i64.wrap (-v)) ⟨#[]⟩ []] else .mk 1 v ⟨#[]⟩ []
/-- A node whose operands are folded. -/
def foN (o n : Int) (s : ByteArray) (l : List Xp) : Xp := if (fvs l).length < l.length ∨ l = [] then .mk o n s l else foV o n s l (wkO o (fvs l))
def Xp.fo : Xp → Xp
  | .mk o n s l => foN o n s (fos l)
where fos : List Xp → List Xp
  | [] => []
  | x :: t => x.fo :: fos t
theorem fos_map (l : List Xp) : Xp.fo.fos l = l.map Xp.fo := by
  induction l with
  | nil => rfl
  | cons x t ih => simp [Xp.fo.fos, ih]
theorem Xp.fo_eq (x : Xp) : x.fo = foN x.op x.n x.nm (x.args.map Xp.fo) := by
  cases x with
  | mk o n s l =>
    show foN o n s (Xp.fo.fos l) = foN o n s (l.map Xp.fo)
    rw [fos_map]
/-- What is asked of the values of its constants. -/
def Xp.fok (P : Int → List Int → Prop) : Xp → Prop
  | .mk o n s l => ((fvs (Xp.fo.fos l)).length = l.length → l ≠ [] → P o (fvs (Xp.fo.fos l))) ∧ foks P l
where foks (P : Int → List Int → Prop) : List Xp → Prop
  | [] => True
  | x :: t => x.fok P ∧ foks P t
theorem foks_all (P : Int → List Int → Prop) (l : List Xp) : Xp.fok.foks P l ↔ ∀ y ∈ l, y.fok P := by
  induction l with
  | nil => simp [Xp.fok.foks]
  | cons x t ih => simp [Xp.fok.foks, ih]
theorem Xp.fok_eq (P : Int → List Int → Prop) (x : Xp) : x.fok P ↔ ((fvs (x.args.map Xp.fo)).length = x.args.length → x.args ≠ [] → P x.op (fvs (x.args.map Xp.fo))) ∧ ∀ y ∈ x.args, y.fok P := by
  cases x with
  | mk o n s l =>
    show (_ ∧ Xp.fok.foks P l) ↔ _
    rw [foks_all, fos_map]
    exact Iff.rfl
theorem fo_neg {x : Xp} (h : x.blt = true) (h20 : x.fo.op = 20) : x.fo.args ≠ [] := by
  rw [x.fo_eq] at h20 ⊢
  have hl := (xblt_len h).1
  have hbase : x.op = 20 → x.args.map Xp.fo ≠ [] := fun e => by
    rw [e] at hl
    simp [kidX] at hl
    intro h0
    rw [List.map_eq_nil_iff] at h0
    rw [h0] at hl
    simp at hl
  unfold foN at h20 ⊢
  split at h20
  · rename_i hc; rw [if_pos hc]; exact hbase h20
  · rename_i hc
    rw [if_neg hc]
    generalize wkO x.op (fvs (x.args.map Xp.fo)) = wv at h20 ⊢
    cases wv with
    | none => exact hbase h20
    | some v =>
      simp only [foV] at h20 ⊢
      split at h20
      · rename_i h1; rw [if_pos h1]; exact hbase h20
      · rename_i h1
        rw [if_neg h1]
        split at h20
        · rename_i h2; rw [if_pos h2]; simp [Xp.args]
        · rename_i h2; change (1 : Int) = 20 at h20; omega
/-- Numbers in a row. -/
def VI (w : World) (a : Option Addr) (vs : List Int) : Prop := ∀ i v, vs[i]? = some v → ∃ g, a = some ⟨g, 0, none⟩ ∧ w.cell? ⟨g, i, none⟩ = some (.int .i64 v)
theorem vi_of {w : World} {B : Nat} {a : Option Addr} {n c : Nat} {vs : List Int} (h : w.ownsRow B 2 1 (.slice a n c) vs.length (vs.map (Value.int .i64))) : VI w a vs := by
  intro i v hv
  have hi : i < vs.length := (List.getElem?_eq_some_iff.1 hv).1
  rcases h.2 with ⟨e, h0⟩ | ⟨g, cap, cur, e, hb, hg, hc, _, hsz, htk⟩
  · omega
  · injection e with e1 e2 e3
    refine ⟨g, e1, ?_⟩
    rw [cell_blk hg]
    have : (vs.map (Value.int .i64))[i]? = some (.int .i64 v) := by rw [List.getElem?_map, hv]; rfl
    rw [← this, ← htk, List.getElem?_take_of_lt (by omega)]
    simp
theorem ints_cap {w : World} {B n n' c : Nat} {T : TypeId} {a : Option Addr} {vs : List Value} (h : w.ownsRow B T 1 (.slice a n c) n' vs) : n' ≤ c := by
  rcases h.2 with ⟨e, h0⟩ | ⟨g, cap, cur, e, hb, hgg, hc, _⟩
  · omega
  · injection e with e1 e2 e3
    omega
/-- What fold gives. -/
def FoPost (S : Nat → Prop) (w : World) (t : Xp) (e : Ending) (w' : World) : Prop := (∃ bo k, e = .returned (exV t bo k) ∧ t.args.length ≤ k ∧ ExL (fun b => S b ∨ (w.heap.size ≤ b ∧ b < w'.heap.size)) w' t.args bo) ∧ Below w.heap.size w w'
theorem fo_fin {S R : Nat → Prop} {w X : World} {y : Nat} {t : Xp} {bo : Option Addr} {k : Nat} (hb : Below w.heap.size w X) (hy : w.heap.size ≤ y) (hR : ∀ b, R b → b ≠ y ∧ (S b ∨ (w.heap.size ≤ b ∧ b < X.heap.size))) (hk : t.args.length ≤ k) (ht : ExL R X t.args bo) (x0 x1 x2 x3 : Value) :
    FoPost S w t (.returned (exV t bo k)) ((((X.setCell ⟨y, 0, none⟩ x0).setCell ⟨y, 1, none⟩ x1).setCell ⟨y, 2, none⟩ x2).setCell ⟨y, 3, none⟩ x3) :=
  ⟨⟨bo, k, rfl, hk, ht.stay (fun b h => by simpa using (hR b h).2) (fun b h => by
    have hne := (hR b h).1
    exact (Below.heap_setCell _ _ _ _ hne).trans ((Below.heap_setCell _ _ _ _ hne).trans ((Below.heap_setCell _ _ _ _ hne).trans (Below.heap_setCell _ _ _ _ hne))))⟩,
   (((hb.setCell (p := ⟨y, 0, none⟩) hy _).setCell (p := ⟨y, 1, none⟩) hy _).setCell (p := ⟨y, 2, none⟩) hy _).setCell (p := ⟨y, 3, none⟩) hy _⟩
theorem twin_box (v0 v1 v2 v3 u0 u1 u2 u3 : Value) (w : World) : ∀ W, (w.alloc (.cells #[v0, v1, v2, v3] 34)).alloc (.cells #[u0, u1, u2, u3] 34) = W → Below w.heap.size w W ∧ W.heap[w.heap.size]? = some (.cells #[v0, v1, v2, v3] 34 (0, 0)) ∧ W.heap[w.heap.size + 1]? = some (.cells #[u0, u1, u2, u3] 34 (0, 0)) ∧ W.heap.size = w.heap.size + 2 := by
  rintro W rfl
  have k1 := (Below.refl w.heap.size w).alloc (Nat.le_refl _) (.cells #[v0, v1, v2, v3] 34)
  have s1 : (w.alloc (.cells #[v0, v1, v2, v3] 34)).heap.size = w.heap.size + 1 := by simp
  have k2 := (Below.refl (w.alloc (.cells #[v0, v1, v2, v3] 34)).heap.size (w.alloc (.cells #[v0, v1, v2, v3] 34))).alloc (Nat.le_refl _) (.cells #[u0, u1, u2, u3] 34)
  refine ⟨below_mono k1 k2 (Nat.le_refl _), (k2.block _ (by omega)).trans (heap_alloc_new w _), ?_, by simp [s1]⟩
  rw [← s1]
  exact heap_alloc_new _ _
theorem four_set (w : World) (z : Nat) (v0 v1 v2 v3 : Value) (cs : Array Value) (T : TypeId) (hsz : ∃ c0 c1 c2 c3, cs = #[c0, c1, c2, c3]) (h : w.heap[z]? = some (.cells cs T (0, 0))) : ∀ W, ((((w.setCell ⟨z, 0, none⟩ v0).setCell ⟨z, 1, none⟩ v1).setCell ⟨z, 2, none⟩ v2).setCell ⟨z, 3, none⟩ v3) = W → (∀ B, B ≤ z → Below B w W) ∧ (∀ b, b ≠ z → W.heap[b]? = w.heap[b]?) ∧ W.heap.size = w.heap.size ∧ W.heap[z]? = some (.cells #[v0, v1, v2, v3] T (0, 0)) := by
  rintro W rfl
  obtain ⟨c0, c1, c2, c3, rfl⟩ := hsz
  refine ⟨fun B hB => ((((Below.refl B w).setCell (p := ⟨z, 0, none⟩) hB _).setCell (p := ⟨z, 1, none⟩) hB _).setCell (p := ⟨z, 2, none⟩) hB _).setCell (p := ⟨z, 3, none⟩) hB _, fun b hb => ?_, by simp, ?_⟩
  · exact (Below.heap_setCell _ _ _ _ hb).trans ((Below.heap_setCell _ _ _ _ hb).trans ((Below.heap_setCell _ _ _ _ hb).trans (Below.heap_setCell _ _ _ _ hb)))
  · exact heap_set_at (i := 3) _ (heap_set_at (i := 2) _ (heap_set_at (i := 1) _ (heap_set_at (i := 0) v0 h)))
set_option maxRecDepth 100000 in
set_option maxHeartbeats 16000000 in
theorem fold_any {S : Nat → Prop} {B : Nat} (hS : ∀ b, S b → b < B) {P : Int → List Int → Prop} (hV : ∀ o vs, P o vs → ∀ (a : Option Addr) (c : Nat) w, vs.length ≤ c → VI w a vs → Calls Try.prog 84 #[.int .i64 o, .slice a vs.length c] w fun e w' => e = .returned (.tuple #[.int .i64 ((wkO o vs).getD 0), .bool (wkO o vs).isSome]) ∧ Below w.heap.size w w') (x : Xp) : ∀ (bo : Option Addr) (k : Nat) (w : World), B ≤ w.heap.size → x.blt = true → x.fok P → x.args.length ≤ k → ExL S w x.args bo →
    Calls Try.prog 58 #[exV x bo k] w (FoPost S w x.fo) := by
  induction x using Xp.ind with
  | h x IH =>
  intro bo k w hB hb hok hk hx
  have hlen := xblt_len hb
  have hfo := x.fo_eq
  rw [Xp.fok_eq] at hok
  obtain ⟨l, hl⟩ : ∃ l, l = x.args := ⟨_, rfl⟩
  obtain ⟨m, hm⟩ : ∃ m, m = l.length := ⟨_, rfl⟩
  obtain ⟨xo, hxo⟩ : ∃ v, v = x.op := ⟨_, rfl⟩
  obtain ⟨xn, hxn⟩ : ∃ v, v = x.n := ⟨_, rfl⟩
  obtain ⟨xs, hxs⟩ : ∃ v, v = x.nm := ⟨_, rfl⟩
  rw [show exV x bo k = .agg #[.int .i64 xo, .int .i64 xn, .string xs, .slice bo m k] from by rw [hm, hl, hxo, hxn, hxs]]
  rw [← hl] at IH hlen hfo hok hk hx
  rw [← hxo] at hlen hfo hok
  rw [← hxn, ← hxs] at hfo
  rw [← hm] at hlen hok hk
  have hm3 : m ≤ 3 := by have := hlen.1; unfold kidX at this; (repeat' split at this) <;> omega
  have GA := Lib.hid (twin_box (.int .i64 xo) (.int .i64 xn) (.string xs) (.slice bo m k) (.int .i64 0) (.int .i64 0) (.string ⟨#[]⟩) (.slice none 0 0) w)
  have HX : Hid (∀ W, Below w.heap.size w W → ExL S W l bo) := Lib.hid fun W hW => hx.stay (fun _ h => h) fun b hb => hW.block b (by have := hS b hb; omega)
  have HI : Hid (∀ y ∈ l, ∀ (co : Option Addr) (ck : Nat) W, Below w.heap.size w W → y.args.length ≤ ck → ExL S W y.args co → Calls Try.prog 58 #[exV y co ck] W (FoPost S W y.fo)) := Lib.hid fun u hu co ck W hW h1 h2 => IH u hu co ck W (by have := hW.size; omega) (hlen.2.2 u hu) (hok.2 u hu) h1 h2
  have HNEG : Hid (∀ y ∈ l, y.fo.op = 20 → y.fo.args ≠ []) := Lib.hid fun u hu h => fo_neg (hlen.2.2 u hu) h
  have HOK := Lib.hid hok.1
  have HV := Lib.hid hV
  have HFO := Lib.hid hfo
  have HM := Lib.hid hm
  have HK := Lib.hid hk
  have HSB : Hid (∀ b, S b → b < w.heap.size) := Lib.hid fun b h => by have := hS b h; omega
  clear IH hb hok hk hx hlen hfo hl hm hxo hxn hxs hV
  go_enter Try.func58, Try.ntmps58
  go_upto_region 3 with fail
  obtain ⟨z, hz⟩ : ∃ z, z = w.heap.size := ⟨_, rfl⟩
  obtain ⟨W, hW⟩ : ∃ X, (w.alloc (.cells #[.int .i64 xo, .int .i64 xn, .string xs, .slice bo m k] 34)).alloc (.cells #[.int .i64 0, .int .i64 0, .string ⟨#[]⟩, .slice none 0 0] 34) = X := ⟨_, rfl⟩
  obtain ⟨g1, b1, b2, sz1⟩ := GA.out W hW
  rw [hW, ← hz]
  rw [← hz] at b1 b2
  have HG := Lib.hid g1
  have HB1 := Lib.hid b1
  have HB2 := Lib.hid b2
  have HZ := Lib.hid (show z = w.heap.size ∧ W.heap.size = z + 2 from ⟨hz, by omega⟩)
  have HSWB : Hid (∀ b, S b → b < W.heap.size) := Lib.hid fun b h => by have := HSB.out b h; have := g1.size; omega
  have c3 : W.cell? ⟨z, 3, none⟩ = some (.slice bo m k) := cell_blk b1 3
  clear hW b1 b2 g1 GA hz sz1
  go_upto_region 4 with fail
  clear c3
  go_loopw [14, 3, 4] (fun v s t wr => ∃ (j : Nat) (va ua : Option Addr) (vc uc p : Nat) (qs : List Q4), j ≤ m ∧ p ≤ j ∧ v = .int .i64 j ∧ s = .slice va j vc ∧ t = .slice ua p uc ∧ Hid (p = (fvs ((l.take j).map Xp.fo)).length ∧ FoB S W.heap.size (.slice va j vc) (.slice ua p uc) ((l.take j).map Xp.fo) (fvs ((l.take j).map Xp.fo)) qs wr) ∧ Hid (Below W.heap.size W wr)) (fun v _ _ _ => m - (intOf v).toNat)
  case atStart => exact ⟨0, none, none, 0, 0, 0, [], by omega, by omega, rfl, rfl, rfl, Lib.hid ⟨by simp [fvs], ⟨rfl, Row4.nil _ _ _, World.ownsRow_nil _ _ _ _, by simpa using Fits.nil _⟩⟩, Lib.hid (Below.refl _ _)⟩
  case round =>
    obtain ⟨j, va, ua, vc, uc, p, qs, hj, hp, rfl, rfl, rfl, HR, HB⟩ := hrel
    have HBW := Lib.hid (below_mono HG.out HB.out (Nat.le_refl _))
    by_cases hlt : j < m
    · obtain ⟨y, hy⟩ : ∃ y, l[j]? = some y := ⟨_, List.getElem?_eq_getElem (by rw [← HM.out]; exact hlt)⟩
      obtain ⟨a, co, ck, rfl, hsa, hck, ⟨y0, y1, y2, y3⟩, hel⟩ := (HX.out wr HBW.out).get hy
      have htk1 : (l.take (j + 1)).map Xp.fo = (l.take j).map Xp.fo ++ [y.fo] := by rw [List.take_add_one, hy]; simp
      have CY : Hid (∀ W', Below wr.heap.size wr W' → Calls Try.prog 58 #[exV y co ck] W' (FoPost S W' y.fo)) := Lib.hid fun W' hW' => HI.out y (List.mem_of_getElem? hy) co ck W' (below_mono HBW.out hW' (Nat.le_refl _)) hck (hel.stay (fun _ h => h) fun b hb => hW'.block b (by have := HSB.out b hb; have := HBW.out.size; omega))
      have HN20 : Hid (y.fo.op = 20 → y.fo.args ≠ []) := Lib.hid (HNEG.out y (List.mem_of_getElem? hy))
      obtain ⟨sy, hsy⟩ : ∃ v, v = y.fo := ⟨_, rfl⟩
      obtain ⟨ls, hls⟩ : ∃ v, v = (l.take j).map Xp.fo := ⟨_, rfl⟩
      have HTK : Hid ((l.take (j + 1)).map Xp.fo = ls ++ [sy]) := Lib.hid (by rw [htk1, hsy, hls])
      rw [← hls] at HR
      rw [← hsy] at CY HN20
      obtain ⟨em, hem⟩ : ∃ c, c = y.args.length := ⟨_, rfl⟩
      obtain ⟨yo, hyo⟩ : ∃ v, v = y.op := ⟨_, rfl⟩
      obtain ⟨yn, hyn⟩ : ∃ v, v = y.n := ⟨_, rfl⟩
      obtain ⟨ys, hys⟩ : ∃ v, v = y.nm := ⟨_, rfl⟩
      rw [← hem] at y3
      rw [← hyo] at y0
      rw [← hyn] at y1
      rw [← hys] at y2
      have CY2 : Hid (∀ W', Below wr.heap.size wr W' → Calls Try.prog 58 #[.agg #[.int .i64 yo, .int .i64 yn, .string ys, .slice co em ck]] W' (FoPost S W' sy)) := by
        rw [hem, hyo, hyn, hys]; exact CY
      obtain ⟨so, hso⟩ : ∃ v, v = sy.op := ⟨_, rfl⟩
      obtain ⟨sn, hsn⟩ : ∃ v, v = sy.n := ⟨_, rfl⟩
      obtain ⟨ss, hss⟩ : ∃ v, v = sy.nm := ⟨_, rfl⟩
      obtain ⟨sm, hsm⟩ : ∃ v, v = sy.args.length := ⟨_, rfl⟩
      obtain ⟨cb, hcb⟩ : ∃ v, v = sy.cB := ⟨_, rfl⟩
      obtain ⟨cv, hcv⟩ : ∃ v, v = sy.cV := ⟨_, rfl⟩
      have HSY := Lib.hid (And.intro hso (And.intro hsn (And.intro hss hsm)))
      have HC := Lib.hid (And.intro hcb hcv)
      have hj1000 : j ≤ 1000 := by omega
      obtain ⟨⟨r0, r1, r2, r3⟩, p0, p1, p2, p3⟩ := new_zero wr (.int .i64 0) (.int .i64 0) (.string ⟨#[]⟩) (.slice none 0 0) 34
      obtain ⟨u, hu⟩ : ∃ u, u = wr.heap.size := ⟨_, rfl⟩
      have j0 : (0 : Int) ≤ (j : Int) := by omega
      have j1 : (j : Int) < (m : Int) := by omega
      clear hem hyo hyn hys hsa hck hel hy CY htk1 hsy hls hso hsn hss hsm hcb hcv
      go_upto_region 6 with fail
      clear r0 r1 r2 r3 p0 p1 p2 p3 y0 y1 y2 y3
      obtain ⟨W3, hW3⟩ : ∃ X, wr.alloc (.cells #[.int .i64 yo, .int .i64 yn, .string ys, .slice co em ck] 34) = X := ⟨_, rfl⟩
      have HB3 := Lib.hid (made_box wr _ W3 hW3)
      have hb3 : W3.heap[wr.heap.size]? = some (.cells #[.int .i64 yo, .int .i64 yn, .string ys, .slice co em ck] 34 (0, 0)) := by rw [← hW3]; exact heap_alloc_new _ _
      rw [hW3]
      rw [← hu] at hb3 ⊢
      have HB3B := Lib.hid hb3
      have HU := Lib.hid hu
      obtain ⟨y0, y1, y2, y3⟩ := quad hb3
      clear hb3 hW3 hu
      go_upto_region 7 with (go_at_call 58; (with_reducible refine (CY2.out _ HB3.out.1.2).mono ?_); rintro e w4 ⟨⟨eo2, ek2, he, hek2, hok⟩, hb4⟩; have HOK2 := Lib.hid (And.intro hek2 hok); have HB4 := Lib.hid hb4; have HX4 := Lib.hid ((hb4.block u (lt_of_heap HB3B.out)).trans HB3B.out); obtain rfl : e = Ending.returned (.agg #[.int .i64 so, .int .i64 sn, .string ss, .slice eo2 sm ek2]) := (by rw [he, HSY.out.1, HSY.out.2.1, HSY.out.2.2.1, HSY.out.2.2.2]); clear he hok hek2 hb4 y0 y1 y2 y3 CY2; obtain ⟨n0', n1', n2', n3'⟩ := quad HX4.out; have p0 : w4.frozen? ⟨u, 0, none⟩ = false := free_blk HX4.out 0; have p1 : w4.frozen? ⟨u, 1, none⟩ = false := free_blk HX4.out 1; have p2 : w4.frozen? ⟨u, 2, none⟩ = false := free_blk HX4.out 2; have p3 : w4.frozen? ⟨u, 3, none⟩ = false := free_blk HX4.out 3)
      clear n0' n1' n2' n3' p0 p1 p2 p3
      obtain ⟨W5, hW5⟩ : ∃ X, (((w4.setCell ⟨u, 0, none⟩ (.int .i64 so)).setCell ⟨u, 1, none⟩ (.int .i64 sn)).setCell ⟨u, 2, none⟩ (.string ss)).setCell ⟨u, 3, none⟩ (.slice eo2 sm ek2) = X := ⟨_, rfl⟩
      obtain ⟨k5, h5, s5, x5⟩ := four_set w4 u (.int .i64 so) (.int .i64 sn) (.string ss) (.slice eo2 sm ek2) _ _ ⟨_, _, _, _, rfl⟩ HX4.out W5 hW5
      rw [hW5]
      have h34 := HB4.out.size
      have h3u := HB3.out.1.1
      have hwr := HB.out.size
      have huu := HU.out
      have HB5 : Hid (Below wr.heap.size wr W5) := Lib.hid ((below_mono HB3.out.1.2 HB4.out (Nat.le_refl _)).trans (k5 wr.heap.size (by omega)))
      have HF5 : Hid (FoB S W.heap.size (.slice va j vc) (.slice ua p uc) ls (fvs ls) qs W5) := Lib.hid (HR.out.2.stay HSWB.out HB.out.size HB5.out.size fun b hb _ => HB5.out.block b hb)
      have HQ5 : Hid (QX (fun b => S b ∨ (W3.heap.size ≤ b ∧ b < w4.heap.size)) W5 sy (.int .i64 so, .int .i64 sn, .string ss, .slice eo2 sm ek2)) := Lib.hid ⟨eo2, ek2, by rw [HSY.out.1, HSY.out.2.1, HSY.out.2.2.1, HSY.out.2.2.2], HOK2.out.1, HOK2.out.2.stay (fun _ h => h) fun b hb => h5 b (by
        rcases hb with hb | hb
        · have := HSWB.out b hb; omega
        · omega)⟩
      have HX5 := Lib.hid x5
      have HS5 := Lib.hid s5
      have HQL : Hid (qs.length = j) := Lib.hid (by obtain ⟨a, c, e, h⟩ := HR.out.2.row.form; injection e with _ e2 _; omega)
      have HLT : Hid (∀ g, (Value.slice va j vc).ownBlock = some g → g < wr.heap.size ∧ W.heap.size ≤ g) := Lib.hid fun g hg => HR.out.2.row.lt hg
      have HLU : Hid (∀ g, (Value.slice ua p uc).ownBlock = some g → g < wr.heap.size ∧ W.heap.size ≤ g) := Lib.hid fun g hg => ints_lt HR.out.2.ints hg
      obtain ⟨y0, y1, y2, y3⟩ := quad x5
      clear k5 h5 s5 x5 hW5 h34 h3u hwr huu
      go_upto_region 8 with (at_builtin; refine wpList_appX rfl _ _ rfl W.heap.size (.slice va j vc) qs rfl (HF5.out.row.stay (fun g hg => ((Below.refl W5.heap.size W5).alloc (Nat.le_refl _) _).block g (HF5.out.row.lt hg).1)) W5.heap.size so sn ss eo2 sm ek2 rfl (heap_alloc_new W5 _) (by rw [HQL.out]; exact hj1000) (by have := HB.out.size; have := HB5.out.size; simp; omega) ?_; intro g' cap w6 hown hgr hor hgl; have HR6 := Lib.hid hown; have HG6 := Lib.hid hgr; have HO6 := Lib.hid hor; have HGL := Lib.hid hgl; clear hown hgr hor hgl)
      rw [HQL.out]
      have HBA : Hid (Below W5.heap.size W5 (W5.alloc (.cells #[.int .i64 so, .int .i64 sn, .string ss, .slice eo2 sm ek2] 34))) := Lib.hid ((Below.refl W5.heap.size W5).alloc (Nat.le_refl _) _)
      have HF6 : Hid (FoB S W.heap.size (.slice (some ⟨g', 0, none⟩) (j + 1) cap) (.slice ua p uc) (ls ++ [sy]) (fvs ls) (qs ++ [(.int .i64 so, .int .i64 sn, .string ss, .slice eo2 sm ek2)]) w6) := Lib.hid (by
        have h1 := HB.out.size
        have h2 := HB5.out.size
        have h3 := HS5.out
        have h4 := HB4.out.size
        have h6 := HB3.out.1.1
        refine FoB.push (w := W5.alloc (.cells #[.int .i64 so, .int .i64 sn, .string ss, .slice eo2 sm ek2] 34)) (S' := fun b => S b ∨ (W3.heap.size ≤ b ∧ b < w4.heap.size)) (HF5.out.stay HSWB.out (by omega) HBA.out.size fun b hb _ => HBA.out.block b hb) HSWB.out (by have := HBA.out.size; omega) (by rw [← HQL.out]; exact HR6.out) HG6.out HO6.out (HQ5.out.stay (fun _ h => h) fun b hb => HBA.out.block b (by
          rcases hb with hb | hb
          · have := HSWB.out b hb; omega
          · omega)) ?_
        rintro b (hb | hb)
        · exact ⟨by have := HSWB.out b hb; simp; omega, .inl hb⟩
        · exact ⟨by simp; omega, .inr ⟨by omega, fun e => by have := HLT.out b e; omega, fun e => by have := HLU.out b e; omega⟩⟩)
      have HG5 : Hid (∀ b, b < W5.heap.size → (Value.slice va j vc).ownBlock ≠ some b → w6.heap[b]? = W5.heap[b]?) := Lib.hid fun b hb hne => (HG6.out.block b (by simp; omega) (Ne.symm hne)).trans (HBA.out.block b hb)
      have HX6 : Hid (w6.heap[u]? = some (.cells #[.int .i64 so, .int .i64 sn, .string ss, .slice eo2 sm ek2] 34 (0, 0))) := Lib.hid ((HG5.out u (lt_of_heap HX5.out) fun e => by have := HLT.out u e; have := HU.out; omega).trans HX5.out)
      have HQ6 : Hid (ExL (fun b => S b ∨ (W3.heap.size ≤ b ∧ b < w4.heap.size)) w6 sy.args eo2 ∧ sm ≤ ek2) := Lib.hid (by
        obtain ⟨bo', k', e1, e2, e3⟩ := HQ5.out
        injection e1 with _ e1
        injection e1 with _ e1
        injection e1 with _ e1
        injection e1 with e1 e4 e5
        subst e1 e5
        refine ⟨e3.stay (fun _ h => h) fun b hb => HG5.out b ?_ ?_, by rw [HSY.out.2.2.2]; exact e2⟩
        · have := HS5.out
          have h1 := HB5.out.size
          have h2 := HB.out.size
          rcases hb with hb | hb
          · have := HSWB.out b hb; omega
          · omega
        · intro e
          have h7 := HLT.out b e
          have h6 := HB3.out.1.1
          rcases hb with hb | hb
          · have := HSWB.out b hb; omega
          · omega)
      have HS6 : Hid (W5.heap.size < w6.heap.size) := Lib.hid (by have := HG6.out.size; simp at this; omega)
      have CC : Hid (Calls Try.prog 83 #[.agg #[.int .i64 so, .int .i64 sn, .string ss, .slice eo2 sm ek2]] w6 fun e w' => e = .returned (.tuple #[.int .i64 cv, .bool cb]) ∧ Below w6.heap.size w6 w') := Lib.hid (by
        have := constant_any (S := fun b => S b ∨ (W3.heap.size ≤ b ∧ b < w4.heap.size)) sy eo2 ek2 w6 (fun b hb => by
          have := HS6.out
          have := HS5.out
          have h1 := HB5.out.size
          have h2 := HB.out.size
          rcases hb with hb | hb
          · have := HSWB.out b hb; omega
          · omega) HQ6.out.1 HN20.out (by rw [← HSY.out.2.2.2]; exact HQ6.out.2)
        rw [← HC.out.1, ← HC.out.2, show exV sy eo2 ek2 = .agg #[.int .i64 so, .int .i64 sn, .string ss, .slice eo2 sm ek2] from by rw [HSY.out.1, HSY.out.2.1, HSY.out.2.2.1, HSY.out.2.2.2]] at this
        exact this)
      have HB6 : Hid (Below W.heap.size W w6) := Lib.hid (((below_mono HB.out HB5.out (Nat.le_refl _)).alloc (by have := HB.out.size; have := HB5.out.size; omega) _).grown HG6.out (by have := HB.out.size; have := HB5.out.size; simp; omega) (fun g hg => (HLT.out g hg).2))
      obtain ⟨y0, y1, y2, y3⟩ := quad HX6.out
      have HPL := Lib.hid HR.out.1
      clear HF5 HQ5 HQ6 HR HG5 HG6 HR6 HO6 HN20
      cases cb with
      | false =>
        have HFV : Hid (fvs (ls ++ [sy]) = fvs ls) := Lib.hid (fvs_no HC.out.1.symm)
        go_wp2_with (go_at_call 83; (with_reducible refine CC.out.mono ?_); rintro e w7 ⟨rfl, hb⟩; have HB7 := Lib.hid hb; clear hb)
        go_roundw
        case rel =>
          refine ⟨j + 1, some ⟨g', 0, none⟩, ua, cap, uc, p, qs ++ [(.int .i64 so, .int .i64 sn, .string ss, .slice eo2 sm ek2)], by omega, by omega, by go_num, rfl, rfl, Lib.hid ?_, Lib.hid (below_mono HB6.out HB7.out (Nat.le_refl _))⟩
          rw [HTK.out, HFV.out]
          exact ⟨HPL.out, HF6.out.stay HSWB.out HB6.out.size HB7.out.size fun b hb _ => HB7.out.block b hb⟩
        case measure => simp [intOf]; omega
      | true =>
        have HFV : Hid (fvs (ls ++ [sy]) = fvs ls ++ [cv]) := Lib.hid (by rw [fvs_yes HC.out.1.symm, HC.out.2])
        go_upto_region 10 with (go_at_call 83; (with_reducible refine CC.out.mono ?_); rintro e w7 ⟨rfl, hb⟩; have HB7 := Lib.hid hb; clear hb)
        have HF7 : Hid (FoB S W.heap.size (.slice (some ⟨g', 0, none⟩) (j + 1) cap) (.slice ua p uc) (ls ++ [sy]) (fvs ls) (qs ++ [(.int .i64 so, .int .i64 sn, .string ss, .slice eo2 sm ek2)]) (w7.alloc (.cells #[.int .i64 cv] 2))) := Lib.hid ((HF6.out.stay HSWB.out HB6.out.size HB7.out.size fun b hb _ => HB7.out.block b hb).stay HSWB.out (Nat.le_trans HB6.out.size HB7.out.size) (by simp) fun b hb _ => ((Below.refl w7.heap.size w7).alloc (Nat.le_refl _) _).block b hb)
        have HP10 : Hid ((fvs ls).length ≤ 1000) := Lib.hid (by have := HPL.out; omega)
        go_wp2_with (at_builtin; refine wpList_app64 rfl _ _ rfl W.heap.size (.slice ua p uc) (fvs ls).length ((fvs ls).map (Value.int .i64)) rfl HF7.out.ints w7.heap.size cv rfl (heap_alloc_new w7 _) HP10.out (by have := HB6.out.size; have := HB7.out.size; simp; omega) ?_; intro g2 cap2 w8 hown hgr hor hgl; have HR8 := Lib.hid hown; have HG8 := Lib.hid hgr; have HO8 := Lib.hid hor; clear hown hgr hor hgl)
        rw [← HPL.out]
        go_wp2_with fail
        go_roundw
        case rel =>
          refine ⟨j + 1, some ⟨g', 0, none⟩, some ⟨g2, 0, none⟩, cap, cap2, p + 1, qs ++ [(.int .i64 so, .int .i64 sn, .string ss, .slice eo2 sm ek2)], by omega, by omega, by go_num, rfl, rfl, Lib.hid ?_, Lib.hid (((below_mono HB6.out HB7.out (Nat.le_refl _)).alloc (by have := HB6.out.size; have := HB7.out.size; omega) _).grown HG8.out (by have := HB6.out.size; have := HB7.out.size; simp; omega) (fun g hg => (HLU.out g hg).2))⟩
          rw [HTK.out, HFV.out]
          refine ⟨by rw [List.length_append, HPL.out]; rfl, ?_⟩
          rw [HPL.out]
          have hf7 := HF7.out
          exact hf7.put HSWB.out (by have := HB6.out.size; have := HB7.out.size; simp; omega) HR8.out HG8.out HO8.out
        case measure => simp [intOf]; omega
    · obtain rfl : j = m := by omega
      have HLS : Hid ((l.take j).map Xp.fo = l.map Xp.fo) := Lib.hid (by rw [List.take_of_length_le (by rw [HM.out]; exact Nat.le_refl _)])
      rw [HLS.out] at HR
      obtain ⟨ls, hls⟩ : ∃ v, v = l.map Xp.fo := ⟨_, rfl⟩
      rw [← hls] at HR HFO HOK
      have HLL : Hid (ls.length = j ∧ l.length = j) := Lib.hid ⟨by rw [hls, List.length_map, ← HM.out], HM.out.symm⟩
      have j1 : ¬ (j : Int) < (j : Int) := by omega
      have hz := HZ.out
      have hzl := lt_of_heap HB1.out
      have hyl := lt_of_heap HB2.out
      have e1 := (HB.out.block z hzl).trans HB1.out
      have e2 := (HB.out.block (z + 1) hyl).trans HB2.out
      have p3 : wr.frozen? ⟨z, 3, none⟩ = false := free_blk e1 3
      have c3 : wr.cell? ⟨z, 3, none⟩ = some (.slice bo j k) := cell_blk e1 3
      obtain ⟨X, hX⟩ : ∃ X, wr.setCell ⟨z, 3, none⟩ (.slice va j vc) = X := ⟨_, rfl⟩
      have hz3 : ∀ b, b ≠ z → X.heap[b]? = wr.heap[b]? := fun b hb => by rw [← hX]; exact Below.heap_setCell _ _ _ _ hb
      have hsz : X.heap.size = wr.heap.size := by rw [← hX]; simp
      have HXZ : Hid (X.heap[z]? = some (.cells #[.int .i64 xo, .int .i64 xn, .string xs, .slice va j vc] 34 (0, 0))) := Lib.hid (by rw [← hX]; exact heap_set_at (i := 3) _ e1)
      have HXY : Hid (X.heap[z + 1]? = some (.cells #[.int .i64 0, .int .i64 0, .string ⟨#[]⟩, .slice none 0 0] 34 (0, 0))) := Lib.hid ((hz3 _ (by omega)).trans e2)
      have HBX : Hid (Below w.heap.size w X) := Lib.hid (by rw [← hX]; exact HBW.out.setCell (p := ⟨z, 3, none⟩) (by show w.heap.size ≤ z; omega) _)
      have HF : Hid (FoB S W.heap.size (.slice va j vc) (.slice ua p uc) ls (fvs ls) qs X) := Lib.hid (HR.out.2.stay HSWB.out HB.out.size (by omega) fun b hb hs => hz3 b (by
        rcases hs with hs | hs
        · have := HSB.out b hs; omega
        · omega))
      have HP := Lib.hid HR.out.1
      have HWX : Hid (W.heap.size ≤ X.heap.size) := Lib.hid (by have := HB.out.size; omega)
      have HX' := Lib.hid hX
      clear e1 e2 hzl hyl HR hX hz3 hsz hz hls HX HI
      go_upto_region 13 with fail
      rw [HX'.out]
      clear c3 p3 HX'
      have HVC : Hid (j ≤ vc) := Lib.hid (by obtain ⟨a, c, e, h⟩ := HF.out.row.form; injection e with _ e2 e3; omega)
      have HBASE : Hid (∀ V, Below X.heap.size X V → ∀ x0 x1 x2 x3, FoPost S w (.mk xo xn xs ls) (.returned (.agg #[.int .i64 xo, .int .i64 xn, .string xs, .slice va j vc])) ((((V.setCell ⟨z + 1, 0, none⟩ x0).setCell ⟨z + 1, 1, none⟩ x1).setCell ⟨z + 1, 2, none⟩ x2).setCell ⟨z + 1, 3, none⟩ x3)) := Lib.hid fun V hV x0 x1 x2 x3 => by
        have hz := HZ.out
        have hwx := HWX.out
        have := fo_fin (S := S) (R := fun b => S b ∨ (W.heap.size ≤ b ∧ b < X.heap.size)) (y := z + 1) (t := .mk xo xn xs ls) (bo := va) (k := vc) (below_mono HBX.out hV (Nat.le_refl _)) (by omega) (fun b hb => by
          have := hV.size
          rcases hb with hb | hb
          · exact ⟨by have := HSB.out b hb; omega, .inl hb⟩
          · exact ⟨by omega, .inr ⟨by omega, by omega⟩⟩) (by show ls.length ≤ vc; rw [HLL.out.1]; exact HVC.out) (HF.out.list.stay (fun _ h => h) fun b hb => hV.block b (by
          rcases hb with hb | hb
          · have := HSB.out b hb; omega
          · omega)) x0 x1 x2 x3
        have e : exV (.mk xo xn xs ls) va vc = .agg #[.int .i64 xo, .int .i64 xn, .string xs, .slice va j vc] := by
          show Value.agg #[.int .i64 xo, .int .i64 xn, .string xs, .slice va ls.length vc] = _
          rw [HLL.out.1]
        rw [e] at this
        exact this
      obtain ⟨c0, c1, c2, c3⟩ := quad HXZ.out
      obtain ⟨d0, d1, d2, d3⟩ := quad HXY.out
      have p0 : X.frozen? ⟨z + 1, 0, none⟩ = false := free_blk HXY.out 0
      have p1 : X.frozen? ⟨z + 1, 1, none⟩ = false := free_blk HXY.out 1
      have p2 : X.frozen? ⟨z + 1, 2, none⟩ = false := free_blk HXY.out 2
      have p3 : X.frozen? ⟨z + 1, 3, none⟩ = false := free_blk HXY.out 3
      by_cases hpm : p < j
      · have HFB : Hid (x.fo = .mk xo xn xs ls) := Lib.hid (by rw [HFO.out]; unfold foN; rw [if_pos (.inl (by rw [HLL.out.1, ← HP.out]; exact hpm))])
        have h1 : (p : Int) < (j : Int) := by omega
        go_wp2_with fail
        have HS10 := Lib.hid (four_set X (z + 1) (.int .i64 xo) (.int .i64 xn) (.string xs) (.slice va j vc) _ _ ⟨_, _, _, _, rfl⟩ HXY.out)
        have hfin := HBASE.out X (Below.refl _ _) (.int .i64 xo) (.int .i64 xn) (.string xs) (.slice va j vc)
        clear d0 d1 d2 d3 p0 p1 p2 p3
        obtain ⟨W10, hW10⟩ : ∃ Y, ((((X).setCell ⟨z + 1, 0, none⟩ (.int .i64 xo)).setCell ⟨z + 1, 1, none⟩ (.int .i64 xn)).setCell ⟨z + 1, 2, none⟩ (.string xs)).setCell ⟨z + 1, 3, none⟩ (.slice va j vc) = Y := ⟨_, rfl⟩
        rw [hW10] at hfin ⊢
        obtain ⟨_, _, _, x10⟩ := HS10.out W10 hW10
        obtain ⟨t0, t1, t2, t3⟩ := quad x10
        exact bodyPost_ret (v := .agg #[.int .i64 xo, .int .i64 xn, .string xs, .slice va j vc]) (by simp [results, Try.results58, go_sem, t0, t1, t2, t3]) rfl (by rw [HFB.out]; exact hfin)
      · have h1 : ¬ (p : Int) < (j : Int) := by omega
        by_cases hj0 : j = 0
        · have HFB : Hid (x.fo = .mk xo xn xs ls) := Lib.hid (by rw [HFO.out]; unfold foN; rw [if_pos (.inr (by have := HLL.out.1; rw [hj0] at this; exact List.length_eq_zero_iff.1 this))])
          subst hj0
          obtain rfl : p = 0 := by omega
          go_wp2_with fail
          have HS10 := Lib.hid (four_set X (z + 1) (.int .i64 xo) (.int .i64 xn) (.string xs) (.slice va 0 vc) _ _ ⟨_, _, _, _, rfl⟩ HXY.out)
          have hfin := HBASE.out X (Below.refl _ _) (.int .i64 xo) (.int .i64 xn) (.string xs) (.slice va 0 vc)
          clear d0 d1 d2 d3 p0 p1 p2 p3
          obtain ⟨W10, hW10⟩ : ∃ Y, ((((X).setCell ⟨z + 1, 0, none⟩ (.int .i64 xo)).setCell ⟨z + 1, 1, none⟩ (.int .i64 xn)).setCell ⟨z + 1, 2, none⟩ (.string xs)).setCell ⟨z + 1, 3, none⟩ (.slice va 0 vc) = Y := ⟨_, rfl⟩
          rw [hW10] at hfin ⊢
          obtain ⟨_, _, _, x10⟩ := HS10.out W10 hW10
          obtain ⟨t0, t1, t2, t3⟩ := quad x10
          exact bodyPost_ret (v := .agg #[.int .i64 xo, .int .i64 xn, .string xs, .slice va 0 vc]) (by simp [results, Try.results58, go_sem, t0, t1, t2, t3]) rfl (by rw [HFB.out]; exact hfin)
        · have hpj : p = j := by omega
          have h2 : ¬ (j : Int) = 0 := by omega
          obtain ⟨wv, hwv⟩ : ∃ v, v = wkO xo (fvs ls) := ⟨_, rfl⟩
          have CV : Hid (Calls Try.prog 84 #[.int .i64 xo, .slice ua p uc] X fun e w' => e = .returned (.tuple #[.int .i64 (wv.getD 0), .bool wv.isSome]) ∧ Below X.heap.size X w') := Lib.hid (by
            have := HV.out xo (fvs ls) (HOK.out (by rw [← HP.out, hpj]) (by intro h0; rw [← List.length_eq_zero_iff] at h0; have := HLL.out.2; omega)) ua uc X (ints_cap HF.out.ints) (vi_of HF.out.ints)
            rw [← HP.out, ← hwv] at this
            exact this)
          have HWV := Lib.hid hwv
          have HFN : Hid (x.fo = foV xo xn xs ls wv) := Lib.hid (by
            rw [HFO.out, hwv]
            unfold foN
            rw [if_neg]
            rintro (h | h)
            · rw [HLL.out.1, ← HP.out] at h; omega
            · have := HLL.out.1; rw [h] at this; simp at this; omega)
          clear hwv
          have hjm : ¬ (j : Int) < (j : Int) := by omega
          subst hpj
          have HAFT : Hid (∀ V, Below X.heap.size X V → V.heap[z]? = some (.cells #[.int .i64 xo, .int .i64 xn, .string xs, .slice va p vc] 34 (0, 0)) ∧ V.heap[z + 1]? = some (.cells #[.int .i64 0, .int .i64 0, .string ⟨#[]⟩, .slice none 0 0] 34 (0, 0))) := Lib.hid fun V hV => ⟨(hV.block z (lt_of_heap HXZ.out)).trans HXZ.out, (hV.block (z + 1) (lt_of_heap HXY.out)).trans HXY.out⟩
          clear d0 d1 d2 d3 p0 p1 p2 p3
          cases wv with
          | none =>
            have HFB : Hid (x.fo = .mk xo xn xs ls) := Lib.hid HFN.out
            have CV2 : Hid (Calls Try.prog 84 #[.int .i64 xo, .slice ua p uc] X fun e w' => e = .returned (.tuple #[.int .i64 0, .bool false]) ∧ Below X.heap.size X w') := CV
            go_wp2_with (go_at_call 84; (with_reducible refine CV2.out.mono ?_); rintro e w9 ⟨rfl, hb⟩; have HB9 := Lib.hid hb; clear hb; obtain ⟨i0, i1, i2, i3⟩ := quad (HAFT.out w9 HB9.out).1; obtain ⟨d0, d1, d2, d3⟩ := quad (HAFT.out w9 HB9.out).2; have p0 : w9.frozen? ⟨z + 1, 0, none⟩ = false := free_blk (HAFT.out w9 HB9.out).2 0; have p1 : w9.frozen? ⟨z + 1, 1, none⟩ = false := free_blk (HAFT.out w9 HB9.out).2 1; have p2 : w9.frozen? ⟨z + 1, 2, none⟩ = false := free_blk (HAFT.out w9 HB9.out).2 2; have p3 : w9.frozen? ⟨z + 1, 3, none⟩ = false := free_blk (HAFT.out w9 HB9.out).2 3)
            have HS10 := Lib.hid (four_set w9 (z + 1) (.int .i64 xo) (.int .i64 xn) (.string xs) (.slice va p vc) _ _ ⟨_, _, _, _, rfl⟩ (HAFT.out w9 HB9.out).2)
            have hfin := HBASE.out w9 HB9.out (.int .i64 xo) (.int .i64 xn) (.string xs) (.slice va p vc)
            clear d0 d1 d2 d3 p0 p1 p2 p3
            obtain ⟨W10, hW10⟩ : ∃ Y, ((((w9).setCell ⟨z + 1, 0, none⟩ (.int .i64 xo)).setCell ⟨z + 1, 1, none⟩ (.int .i64 xn)).setCell ⟨z + 1, 2, none⟩ (.string xs)).setCell ⟨z + 1, 3, none⟩ (.slice va p vc) = Y := ⟨_, rfl⟩
            rw [hW10] at hfin ⊢
            obtain ⟨_, _, _, x10⟩ := HS10.out W10 hW10
            obtain ⟨t0, t1, t2, t3⟩ := quad x10
            exact bodyPost_ret (v := .agg #[.int .i64 xo, .int .i64 xn, .string xs, .slice va p vc]) (by simp [results, Try.results58, go_sem, t0, t1, t2, t3]) rfl (by rw [HFB.out]; exact hfin)
          | some v =>
            have CV2 : Hid (Calls Try.prog 84 #[.int .i64 xo, .slice ua p uc] X fun e w' => e = .returned (.tuple #[.int .i64 v, .bool true]) ∧ Below X.heap.size X w') := CV
            have HFN2 : Hid (x.fo = if v = -9223372036854775808 then .mk xo xn xs ls else if v < 0 then .mk 20 0 ⟨#[]⟩ [.mk 1 (IntKind.i64.wrap (-v)) ⟨#[]⟩ []] else .mk 1 v ⟨#[]⟩ []) := Lib.hid HFN.out
            clear CV HFN HWV
            by_cases hv : v = -9223372036854775808
            · have HFB : Hid (x.fo = .mk xo xn xs ls) := Lib.hid (by rw [HFN2.out, if_pos hv])
              subst hv
              go_wp2_with (go_at_call 84; (with_reducible refine CV2.out.mono ?_); rintro e w9 ⟨rfl, hb⟩; have HB9 := Lib.hid hb; clear hb; obtain ⟨i0, i1, i2, i3⟩ := quad (HAFT.out w9 HB9.out).1; obtain ⟨d0, d1, d2, d3⟩ := quad (HAFT.out w9 HB9.out).2; have p0 : w9.frozen? ⟨z + 1, 0, none⟩ = false := free_blk (HAFT.out w9 HB9.out).2 0; have p1 : w9.frozen? ⟨z + 1, 1, none⟩ = false := free_blk (HAFT.out w9 HB9.out).2 1; have p2 : w9.frozen? ⟨z + 1, 2, none⟩ = false := free_blk (HAFT.out w9 HB9.out).2 2; have p3 : w9.frozen? ⟨z + 1, 3, none⟩ = false := free_blk (HAFT.out w9 HB9.out).2 3)
              have HS10 := Lib.hid (four_set w9 (z + 1) (.int .i64 xo) (.int .i64 xn) (.string xs) (.slice va p vc) _ _ ⟨_, _, _, _, rfl⟩ (HAFT.out w9 HB9.out).2)
              have hfin := HBASE.out w9 HB9.out (.int .i64 xo) (.int .i64 xn) (.string xs) (.slice va p vc)
              clear d0 d1 d2 d3 p0 p1 p2 p3
              obtain ⟨W10, hW10⟩ : ∃ Y, ((((w9).setCell ⟨z + 1, 0, none⟩ (.int .i64 xo)).setCell ⟨z + 1, 1, none⟩ (.int .i64 xn)).setCell ⟨z + 1, 2, none⟩ (.string xs)).setCell ⟨z + 1, 3, none⟩ (.slice va p vc) = Y := ⟨_, rfl⟩
              rw [hW10] at hfin ⊢
              obtain ⟨_, _, _, x10⟩ := HS10.out W10 hW10
              obtain ⟨t0, t1, t2, t3⟩ := quad x10
              exact bodyPost_ret (v := .agg #[.int .i64 xo, .int .i64 xn, .string xs, .slice va p vc]) (by simp [results, Try.results58, go_sem, t0, t1, t2, t3]) rfl (by rw [HFB.out]; exact hfin)
            · have fv : (v == -9223372036854775808) = false := by simp [hv]
              by_cases hn : v < 0
              · obtain ⟨ng, hng⟩ : ∃ g, g = IntKind.i64.wrap (-v) := ⟨_, rfl⟩
                have HFB : Hid (x.fo = .mk 20 0 ⟨#[]⟩ [.mk 1 ng ⟨#[]⟩ []]) := Lib.hid (by rw [HFN2.out, if_neg hv, if_pos hn, hng])
                have y9 : IntKind.i64.wrap (-v) = ng := hng.symm
                clear HFN2 hng hv
                go_upto_region 19 with (go_at_call 84; (with_reducible refine CV2.out.mono ?_); rintro e w9 ⟨rfl, hb⟩; have HB9 := Lib.hid hb; clear hb; obtain ⟨i0, i1, i2, i3⟩ := quad (HAFT.out w9 HB9.out).1; obtain ⟨d0, d1, d2, d3⟩ := quad (HAFT.out w9 HB9.out).2; have p0 : w9.frozen? ⟨z + 1, 0, none⟩ = false := free_blk (HAFT.out w9 HB9.out).2 0; have p1 : w9.frozen? ⟨z + 1, 1, none⟩ = false := free_blk (HAFT.out w9 HB9.out).2 1; have p2 : w9.frozen? ⟨z + 1, 2, none⟩ = false := free_blk (HAFT.out w9 HB9.out).2 2; have p3 : w9.frozen? ⟨z + 1, 3, none⟩ = false := free_blk (HAFT.out w9 HB9.out).2 3)
                have HBA := Lib.hid ((Below.refl w9.heap.size w9).alloc (Nat.le_refl _) (.cells #[.int .i64 1, .int .i64 ng, .string ⟨#[]⟩, .slice none 0 0] 34))
                have HNA := Lib.hid (heap_alloc_new w9 (.cells #[.int .i64 1, .int .i64 ng, .string ⟨#[]⟩, .slice none 0 0] 34))
                have HZL : Hid (z + 1 < w9.heap.size) := Lib.hid (Nat.lt_of_lt_of_le (lt_of_heap HXY.out) HB9.out.size)
                have HYA := Lib.hid ((HBA.out.block (z + 1) HZL.out).trans (HAFT.out w9 HB9.out).2)
                clear d0 d1 d2 d3 p0 p1 p2 p3
                obtain ⟨d0, d1, d2, d3⟩ := quad HYA.out
                have p0 : (w9.alloc (.cells #[.int .i64 1, .int .i64 ng, .string ⟨#[]⟩, .slice none 0 0] 34)).frozen? ⟨z + 1, 0, none⟩ = false := free_blk HYA.out 0
                have p1 : (w9.alloc (.cells #[.int .i64 1, .int .i64 ng, .string ⟨#[]⟩, .slice none 0 0] 34)).frozen? ⟨z + 1, 1, none⟩ = false := free_blk HYA.out 1
                have p2 : (w9.alloc (.cells #[.int .i64 1, .int .i64 ng, .string ⟨#[]⟩, .slice none 0 0] 34)).frozen? ⟨z + 1, 2, none⟩ = false := free_blk HYA.out 2
                have p3 : (w9.alloc (.cells #[.int .i64 1, .int .i64 ng, .string ⟨#[]⟩, .slice none 0 0] 34)).frozen? ⟨z + 1, 3, none⟩ = false := free_blk HYA.out 3
                go_wp2_with fail
                have HS10 := Lib.hid (four_set (w9.alloc (.cells #[.int .i64 1, .int .i64 ng, .string ⟨#[]⟩, .slice none 0 0] 34)) (z + 1) (.int .i64 20) (.int .i64 0) (.string ⟨#[]⟩) (.slice (some ⟨w9.heap.size, 0, none⟩) 1 1) _ _ ⟨_, _, _, _, rfl⟩ HYA.out)
                have hfin := fo_fin (S := S) (R := fun b => b = w9.heap.size) (t := .mk 20 0 ⟨#[]⟩ [.mk 1 ng ⟨#[]⟩ []]) (bo := some ⟨w9.heap.size, 0, none⟩) (k := 1) (y := z + 1) (below_mono (below_mono HBX.out HB9.out (Nat.le_refl _)) HBA.out (Nat.le_refl _)) (by have := HZ.out; omega) (fun b hb => ⟨by have := HZL.out; omega, .inr ⟨by have := HZL.out; have := HZ.out; omega, by rw [hb]; simp⟩⟩) (Nat.le_refl 1) (one_list rfl HNA.out (Nat.le_refl 0) (fun h => absurd rfl h)) (.int .i64 20) (.int .i64 0) (.string ⟨#[]⟩) (.slice (some ⟨w9.heap.size, 0, none⟩) 1 1)
                clear d0 d1 d2 d3 p0 p1 p2 p3
                obtain ⟨W10, hW10⟩ : ∃ Y, (((((w9.alloc (.cells #[.int .i64 1, .int .i64 ng, .string ⟨#[]⟩, .slice none 0 0] 34))).setCell ⟨z + 1, 0, none⟩ (.int .i64 20)).setCell ⟨z + 1, 1, none⟩ (.int .i64 0)).setCell ⟨z + 1, 2, none⟩ (.string ⟨#[]⟩)).setCell ⟨z + 1, 3, none⟩ (.slice (some ⟨w9.heap.size, 0, none⟩) 1 1) = Y := ⟨_, rfl⟩
                rw [hW10] at hfin ⊢
                obtain ⟨_, _, _, x10⟩ := HS10.out W10 hW10
                obtain ⟨t0, t1, t2, t3⟩ := quad x10
                exact bodyPost_ret (v := .agg #[.int .i64 20, .int .i64 0, .string ⟨#[]⟩, .slice (some ⟨w9.heap.size, 0, none⟩) 1 1]) (by simp [results, Try.results58, go_sem, t0, t1, t2, t3]) rfl (by rw [HFB.out]; exact hfin)
              · have HFB : Hid (x.fo = .mk 1 v ⟨#[]⟩ []) := Lib.hid (by rw [HFN2.out, if_neg hv, if_neg hn])
                clear HFN2 hv
                go_wp2_with (go_at_call 84; (with_reducible refine CV2.out.mono ?_); rintro e w9 ⟨rfl, hb⟩; have HB9 := Lib.hid hb; clear hb; obtain ⟨i0, i1, i2, i3⟩ := quad (HAFT.out w9 HB9.out).1; obtain ⟨d0, d1, d2, d3⟩ := quad (HAFT.out w9 HB9.out).2; have p0 : w9.frozen? ⟨z + 1, 0, none⟩ = false := free_blk (HAFT.out w9 HB9.out).2 0; have p1 : w9.frozen? ⟨z + 1, 1, none⟩ = false := free_blk (HAFT.out w9 HB9.out).2 1; have p2 : w9.frozen? ⟨z + 1, 2, none⟩ = false := free_blk (HAFT.out w9 HB9.out).2 2; have p3 : w9.frozen? ⟨z + 1, 3, none⟩ = false := free_blk (HAFT.out w9 HB9.out).2 3)
                have HS10 := Lib.hid (four_set w9 (z + 1) (.int .i64 1) (.int .i64 v) (.string ⟨#[]⟩) (.slice none 0 0) _ _ ⟨_, _, _, _, rfl⟩ (HAFT.out w9 HB9.out).2)
                have hfin := fo_fin (S := S) (R := fun _ => False) (t := .mk 1 v ⟨#[]⟩ []) (bo := none) (k := 0) (y := z + 1) (below_mono HBX.out HB9.out (Nat.le_refl _)) (by have := HZ.out; omega) (fun b hb => hb.elim) (Nat.le_refl 0) (fun h => absurd rfl h) (.int .i64 1) (.int .i64 v) (.string ⟨#[]⟩) (.slice none 0 0)
                clear d0 d1 d2 d3 p0 p1 p2 p3
                obtain ⟨W10, hW10⟩ : ∃ Y, ((((w9).setCell ⟨z + 1, 0, none⟩ (.int .i64 1)).setCell ⟨z + 1, 1, none⟩ (.int .i64 v)).setCell ⟨z + 1, 2, none⟩ (.string ⟨#[]⟩)).setCell ⟨z + 1, 3, none⟩ (.slice none 0 0) = Y := ⟨_, rfl⟩
                rw [hW10] at hfin ⊢
                obtain ⟨_, _, _, x10⟩ := HS10.out W10 hW10
                obtain ⟨t0, t1, t2, t3⟩ := quad x10
                exact bodyPost_ret (v := .agg #[.int .i64 1, .int .i64 v, .string ⟨#[]⟩, .slice none 0 0]) (by simp [results, Try.results58, go_sem, t0, t1, t2, t3]) rfl (by rw [HFB.out]; exact hfin)
end Go.Proofs.Ytidldlhhmophjaa
