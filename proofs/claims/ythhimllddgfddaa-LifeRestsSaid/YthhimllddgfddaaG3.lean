/- Texts of this seat, one behind the other. Conditions: those written at each theorem. -/
import Derived.Deep.DeepAppendRoom
import Derived.Deep.RegionHeld3
import Derived.Deep.QuietTactic
import Derived.BigQuiet
import Derived.Test.YthhimllddgfddaaCkP
import Derived.Test.YthhimllddgfddaaTrQ
import Derived.Test.YthhimllddgfddaaG1
import Derived.Test.YthhimllddgfddaaG2
namespace Go.Proofs.Ythhimllddgfddaa
open Go.RowKit Go.PlainAid Go.Sort
set_option linter.unusedVariables false
set_option linter.unusedSimpArgs false
/-- A path: a row of the call's own. -/
def PI (w : World) (B : Nat) (va : Option Addr) (n c : Nat) (l : List Int) : Prop := w.ownsRow B 3 1 (.slice va n c) n (ivs l)
theorem PI.len {w : World} {B : Nat} {va : Option Addr} {n c : Nat} {l : List Int} (h : PI w B va n c l) : l.length = n := by have := h.1; simpa [ivs] using this
theorem PI.next {w w' : World} {B : Nat} {va : Option Addr} {n c : Nat} {l : List Int} (h : PI w B va n c l) (k : Below w.heap.size w w') : PI w' B va n c l := row_stay h fun g hg => k.block g (row_ltN h hg).1
theorem PI.keep {w w' : World} {B : Nat} {va : Option Addr} {n c : Nat} {l : List Int} (h : PI w B va n c l) {row : Option Nat} (k : w.grownBy w' row) (hne : ∀ g, (Value.slice va n c).ownBlock = some g → some g ≠ row) : PI w' B va n c l := row_stay h fun g hg => k.block g (row_ltN h hg).1 (hne g hg)
theorem pintInfo : (Try.prog.info? 3).map (fun i => (i.zero, i.size, i.bytes)) = some (some (.int .i64 0), 1, 8) := by kernel_rfl
theorem ivs_snoc (l : List Int) (f : Int) : ivs (l ++ [f]) = ivs l ++ [.int .i64 f] := by simp [ivs]
/-- What lay ahead of an append lies there still. -/
theorem run_app_path {w : World} (ty : TypeId) {B : Nat} {va : Option Addr} {n c : Nat} {l : List Int} (h : PI w B va n c l) (f : Int) (g : Nat) (hc : w.cell? ⟨g, 0, none⟩ = some (.int .i64 f)) (hn : n ≤ 10000) (hB : B ≤ w.heap.size) :
    ∃ g' cap w', (Builtin.append_ #[56, 56] ty #[.slice va n c, .slice (some ⟨g, 0, none⟩) 1 1]).run Try.prog w = .ok (.slice (some ⟨g', 0, none⟩) (n + 1) cap) w' ∧ PI w' B (some ⟨g', 0, none⟩) (n + 1) cap (l ++ [f]) ∧ PI w' B va n c l ∧ w.grownBy w' (Value.slice va n c).ownBlock ∧ ((Value.slice va n c).ownBlock = some g' ∧ cap = c ∨ g' = w.heap.size) := by
  obtain ⟨i, hi, hz0, hz1, hz2⟩ := info_parts pintInfo
  have hnews : ∀ j u, [Value.int .i64 f][j]? = some u → w.cell? ((⟨g, 0, none⟩ : Addr).add j) = some u := by
    intro j u hj
    match j, hj with
    | 0, hj => simp at hj; subst hj; rw [addr_zero]; exact hc
    | j + 1, hj => simp at hj
  have h1 : ∀ u ∈ [Value.int .i64 f], u.oneCell' = true := by intro u hu; simp at hu; subst hu; rfl
  rcases h.2 with ⟨hv, h0⟩ | ⟨q, cap, cur, hv, hb, hg, hcap, hmx, hsz, htk⟩
  · injection hv with e1 e2 e3
    subst e1 e2 e3
    obtain ⟨g', cap, w', hr, h2, h3, h4, h5⟩ := run_append_lies (P := Try.prog) w 56 ty B 3 i (.int .i64 0) 1 8 Try.underlying56 hi hz0 hz1 hz2 rfl (by decide) (.slice none 0 0) 0 (ivs l) h ⟨g, 0, none⟩ 1 1 [.int .i64 f] rfl hnews h1 (by decide) (by unfold maxLen; omega) (by omega) hB _ rfl
    refine ⟨g', cap, w', hr, ?_, ⟨h.1, .inl ⟨rfl, rfl⟩⟩, h3, .inr ?_⟩
    · unfold PI; rw [ivs_snoc]; exact h2
    · rcases h4 with h4 | h4
      · cases h4
      · exact h4
  · injection hv with e1 e2 e3
    subst e1 e3
    by_cases hroom : n + 1 ≤ c
    · obtain ⟨w', hr, h2, h3⟩ := run_append_own_spare (P := Try.prog) w B 56 ty 3 i 1 Try.underlying56 hi hz1 q n c (ivs l) h ⟨g, 0, none⟩ 1 1 [.int .i64 f] rfl hnews h1 hroom
      refine ⟨q, c, w', hr, by unfold PI; rw [ivs_snoc]; exact h2, ?_, h3, .inl ⟨rfl, rfl⟩⟩
      rcases h2.2 with ⟨hv2, _⟩ | ⟨q2, cap2, cur2, hv2, hb2, hg2, hc2, hm2, hs2, ht2⟩
      · cases hv2
      · injection hv2 with e1 e2 e3
        injection e1 with e1
        injection e1 with e1
        subst e1 e3
        refine ⟨h.1, .inr ⟨q, c, cur2, rfl, hb2, hg2, by omega, hm2, hs2, ?_⟩⟩
        have hln := h.1
        have : (cur2.toList.take ((n + 1) * 1)).take (n * 1) = ivs l := by
          rw [ht2, List.take_left' (by simpa using hln)]
        rw [List.take_take, show min (n * 1) ((n + 1) * 1) = n * 1 from by omega] at this
        exact this
    · have holds : ∀ j u, (ivs l)[j]? = some u → w.cell? ((⟨q, 0, none⟩ : Addr).add j) = some u := World.ownsRow.cells (g := q) h rfl
      have hz1' := hz1
      have hr := run_append_grow (P := Try.prog) w 56 ty 3 i (.int .i64 0) Try.underlying56 hi hz0 ⟨q, 0, none⟩ n c (ivs l) (by rw [hz1]; exact h.1) holds ⟨g, 0, none⟩ 1 1 [.int .i64 f] (by rw [hz1]; rfl) hnews (by omega) (by omega) (growslice_fits (by omega) (by rw [hz2]; omega))
      have hge := grownCap_ge w (n + 1) c 3
      have hcm : grownCap w (n + 1) c 3 ≤ maxLen := grownCap_le_maxLen w (n + 1) c 3 (by unfold maxLen; omega)
      refine ⟨w.heap.size, _, _, hr, ?_, ?_, ⟨rfl, rfl, rfl, by simp, fun k hk _ => Below.heap_alloc _ _ _ hk⟩, .inr rfl⟩
      · unfold PI
        rw [ivs_snoc]
        refine ⟨by simp [ivs, h.len], .inr ⟨w.heap.size, _, _, rfl, hB, heap_alloc_new w.drew _, hge, hcm, ?_, ?_⟩⟩
        · simp only [Array.size_append, List.size_toArray, size_zeroCells, h.1]
          have : (Value.int IntKind.i64 0).cells.size = 1 := rfl
          rw [this]
          simp
          omega
        · simp only [Array.toList_append, List.append_assoc]
          rw [← List.append_assoc]
          exact List.take_left' (by simp [ivs, h.len])
      · exact row_stay h fun k hk => by cases hk; exact Below.heap_alloc _ _ _ (lt_of_heap hg)
theorem step_appP {w : World} {ops : Array Oper} {o : Oper} {a : Act} {K : Act → World → Prop} {Q : Exit → Act → World → Prop} {E : Prop} (hgd : o.guard = none) (s x : Operand)
    (ho : o.op = .call { callee := .builtin .append, args := #[s, x], argTypes := #[56, 56] })
    (B : Nat) (va : Option Addr) (n c : Nat) (l : List Int) (f : Int) (hs : a.eval s = .slice va n c) (hown : PI w B va n c l) (g : Nat) (hx : a.eval x = .slice (some ⟨g, 0, none⟩) 1 1)
    (hc : w.cell? ⟨g, 0, none⟩ = some (.int .i64 f)) (hn : n ≤ 10000) (hB : B ≤ w.heap.size)
    (h : ∀ g' cap w', PI w' B (some ⟨g', 0, none⟩) (n + 1) cap (l ++ [f]) → PI w' B va n c l → w.grownBy w' (Value.slice va n c).ownBlock → ((Value.slice va n c).ownBlock = some g' ∧ cap = c ∨ g' = w.heap.size) → K (a.put o.dst (.slice (some ⟨g', 0, none⟩) (n + 1) cap)) w') :
    if Region.wanted o (yielded ops a.tmps) = true then Oper.wp Try.prog o a w K Q else E := by
  have hw : Region.wanted o (yielded ops a.tmps) = true := by unfold Region.wanted; rw [hgd]
  rw [if_pos hw]
  obtain ⟨g', cap, w', hr, h2, h3, h4, h5⟩ := run_app_path o.type hown f g hc hn hB
  unfold Oper.wp execOp
  simp only [ho, resolve, invoke, builtin, Sem.run_bind, Sem.run_pure, Result.andThen_ok, List.map_toArray, List.map_cons, List.map_nil, hs, hx, hr]
  exact h g' cap w' h2 h3 h4 h5
/-- Where the deepest expression without a kind stands. -/
def Xp.dst : Xp → List Int
  | .mk _ _ _ l => dsts 0 l
where dsts : Int → List Xp → List Int
  | _, [] => []
  | i, y :: t => if y.knd = 0 then i :: y.dst else dsts (i + 1) t
theorem Xp.dst_eq (x : Xp) : x.dst = Xp.dst.dsts 0 x.args := by cases x; rfl
theorem dsts_drop {l : List Xp} {j : Nat} {y : Xp} (h : l[j]? = some y) (i : Int) : Xp.dst.dsts i (l.drop j) = if y.knd = 0 then i :: y.dst else Xp.dst.dsts (i + 1) (l.drop (j + 1)) := by
  obtain ⟨hl, rfl⟩ := List.getElem?_eq_some_iff.1 h
  rw [List.drop_eq_getElem_cons hl]
  rfl
end Go.Proofs.Ythhimllddgfddaa
namespace Go.Proofs.Ythhimllddgfddaa
open Go.RowKit Go.PlainAid Go.Sort
set_option linter.unusedVariables false
set_option linter.unusedSimpArgs false
theorem grown_path {w a b : World} {row : Option Nat} {g' : Nat} (h : w.grownBy a row) (k : a.grownBy b (some g')) (hg : row = some g' ∨ w.heap.size ≤ g') : w.grownBy b row :=
  ⟨k.os.trans h.os, k.tape.trans h.tape, k.output.trans h.output, Nat.le_trans h.size k.size, fun i hi hne => (k.block i (Nat.lt_of_lt_of_le hi h.size) (by intro e; cases e; rcases hg with hg | hg; exact hne hg.symm; omega)).trans (h.block i hi hne)⟩
theorem grown_below {w a : World} (h : Below w.heap.size w a) (row : Option Nat) : w.grownBy a row := ⟨h.os, h.tape, h.output, h.size, fun k hk _ => h.block k hk⟩
theorem grown_more {w a b : World} {row : Option Nat} (h : w.grownBy a row) (k : a.grownBy b row) : w.grownBy b row :=
  ⟨k.os.trans h.os, k.tape.trans h.tape, k.output.trans h.output, Nat.le_trans h.size k.size, fun i hi hne => (k.block i (Nat.lt_of_lt_of_le hi h.size) hne).trans (h.block i hi hne)⟩
/-- What is answered of a path. -/
def DpP (B : Nat) (row : Option Nat) (l : List Int) (w : World) (e : Ending) (w' : World) : Prop := (∃ qa qn qc, e = .returned (.slice qa qn qc) ∧ PI w' B qa qn qc l) ∧ w.grownBy w' row
set_option maxRecDepth 100000 in
set_option maxHeartbeats 8000000 in
theorem deepest_any {S : Nat → Prop} {B : Nat} (hS : ∀ b, S b → b < B) (x : Xp) : ∀ (bo : Option Addr) (k : Nat) (w : World) (pa : Option Addr) (pn pc : Nat) (path : List Int), B ≤ w.heap.size → x.blt = true → x.args.length ≤ k → ExL S w x.args bo → PI w B pa pn pc path → pn + x.dep ≤ 9000 →
    Calls Try.prog 51 #[exV x bo k, .slice pa pn pc] w (DpP B (Value.slice pa pn pc).ownBlock (path ++ x.dst) w) := by
  induction x using Xp.ind with
  | h x IH =>
  intro bo k w pa pn pc path hB hb hk hx hp hn
  obtain ⟨hlen, _, hbl⟩ := xblt_len hb
  have hds := x.dst_eq
  have hde := x.dep_eq
  obtain ⟨l, hl'⟩ : ∃ l, l = x.args := ⟨_, rfl⟩
  rw [← hl'] at IH hk hx hlen hbl hds hde
  have HX : Hid (∀ W, Below w.heap.size w W → ExL S W l bo) := Lib.hid fun W hW => hx.stay (fun _ h => h) fun b hb => hW.block b (by have := hS b hb; omega)
  have CK : Hid (∀ y ∈ l, ∀ (co : Option Addr) (ck : Nat), y.args.length ≤ ck → ∀ W, Below w.heap.size w W → ExL S W y.args co → Calls Try.prog 42 #[exV y co ck] W fun e w' => e = .returned (.int .i64 (y.knd : Nat)) ∧ Below W.heap.size W w') := Lib.hid fun y hy co ck h1 W hW h2 => kind_any (S := S) (B := B) hS y co ck W (by have := hW.size; omega) (hbl y hy) h1 h2
  have HI := Lib.hid IH
  have HBL := Lib.hid hbl
  have HDS := Lib.hid hds
  have HA := Lib.hid (And.intro hB (And.intro hn hde))
  have HP := Lib.hid hp
  obtain ⟨m, hm⟩ : ∃ m, m = l.length := ⟨_, rfl⟩
  have HM := Lib.hid hm
  have hm3 : m ≤ 3 := by
    have : kidX x.op ≤ 3 := by unfold kidX; repeat' split <;> omega
    omega
  obtain ⟨xo, hxo⟩ : ∃ v, v = x.op := ⟨_, rfl⟩
  obtain ⟨xn, hxn⟩ : ∃ v, v = x.n := ⟨_, rfl⟩
  obtain ⟨xs, hxs⟩ : ∃ v, v = x.nm := ⟨_, rfl⟩
  rw [show exV x bo k = .agg #[.int .i64 xo, .int .i64 xn, .string xs, .slice bo m k] from by rw [hm, hl', hxo, hxn, hxs]]
  obtain ⟨RES, hRES⟩ : ∃ v, v = path ++ x.dst := ⟨_, rfl⟩
  rw [← hRES]
  have HR := Lib.hid hRES
  have GA := Lib.hid (cells_made #[.int .i64 xo, .int .i64 xn, .string xs, .slice bo m k] 53 w)
  clear IH hB hb hk hx hp hn hlen hbl hl' hm hxo hxn hxs hRES hds hde
  go_enter Try.func51, Try.ntmps51
  go_upto_region 1 with fail
  obtain ⟨z, hz⟩ : ∃ z, z = w.heap.size := ⟨_, rfl⟩
  obtain ⟨W, hW⟩ : ∃ X, w.alloc (.cells #[.int .i64 xo, .int .i64 xn, .string xs, .slice bo m k] 53) = X := ⟨_, rfl⟩
  obtain ⟨g1, b1, s1⟩ := GA.out W hW
  rw [hW, ← hz]
  rw [← hz] at b1
  have HG := Lib.hid g1
  have HB1 := Lib.hid b1
  obtain ⟨c0, c1, c2, c3⟩ := quad b1
  clear hW g1 b1 s1 GA hz
  go_upto_region 2 with fail
  clear c0 c1 c2 c3
  go_loopw [10] (fun v wr => ∃ j : Nat, j ≤ m ∧ v = .int .i64 j ∧ Hid (RES = path ++ Xp.dst.dsts (j : Int) (l.drop j) ∧ Below W.heap.size W wr)) (fun v _ => m - (intOf v).toNat)
  case atStart => exact ⟨0, by omega, rfl, Lib.hid ⟨by rw [HR.out, HDS.out]; rfl, Below.refl _ _⟩⟩
  case round =>
    obtain ⟨j, hj, rfl, HRW⟩ := hrel
    have HWW := Lib.hid (below_mono HG.out HRW.out.2 (Nat.le_refl _))
    by_cases hlt : j < m
    · obtain ⟨y, hy⟩ : ∃ y, l[j]? = some y := ⟨_, List.getElem?_eq_getElem (by rw [← HM.out]; exact hlt)⟩
      have hmem := List.mem_of_getElem? hy
      have hdi := (cnts_in hy).2
      obtain ⟨a, co, ck, rfl, hsa, hck, ⟨y0, y1, y2, y3⟩, hyl⟩ := (HX.out wr HWW.out).get hy
      have HD : Hid (Xp.dst.dsts (j : Int) (l.drop j) = if y.knd = 0 then (j : Int) :: y.dst else Xp.dst.dsts ((j : Int) + 1) (l.drop (j + 1))) := Lib.hid (dsts_drop hy j)
      have CKy : Hid (∀ V, Below wr.heap.size wr V → Calls Try.prog 42 #[exV y co ck] V fun e w' => e = .returned (.int .i64 (y.knd : Nat)) ∧ Below V.heap.size V w') := Lib.hid fun V hV => CK.out y hmem co ck hck V (below_mono HWW.out hV (Nat.le_refl _)) (hyl.stay (fun _ h => h) fun b hb => hV.block b (by have := hS b hb; have := HA.out.1; have := HWW.out.size; omega))
      have CD : Hid (∀ V va n c p2, w.heap.size ≤ V.heap.size → (∀ b, S b → V.heap[b]? = wr.heap[b]?) → PI V B va n c p2 → n = pn + 1 → Calls Try.prog 51 #[exV y co ck, .slice va n c] V (DpP B (Value.slice va n c).ownBlock (p2 ++ y.dst) V)) := Lib.hid fun V va n c p2 hs hV hp hn => HI.out y hmem co ck V va n c p2 (by have := HA.out.1; omega) (HBL.out y hmem) hck (hyl.stay (fun _ h => h) hV) hp (by
        have := HA.out.2
        omega)
      obtain ⟨kn, hkn⟩ : ∃ v, v = y.knd := ⟨_, rfl⟩
      obtain ⟨yd, hyd⟩ : ∃ v, v = y.dst := ⟨_, rfl⟩
      rw [← hkn, ← hyd] at HD
      rw [← hkn] at CKy
      rw [← hyd] at CD
      obtain ⟨cm, hcm⟩ : ∃ c, c = y.args.length := ⟨_, rfl⟩
      obtain ⟨yo, hyo⟩ : ∃ v, v = y.op := ⟨_, rfl⟩
      obtain ⟨yn, hyn⟩ : ∃ v, v = y.n := ⟨_, rfl⟩
      obtain ⟨ys, hys⟩ : ∃ v, v = y.nm := ⟨_, rfl⟩
      have hye : exV y co ck = .agg #[.int .i64 yo, .int .i64 yn, .string ys, .slice co cm ck] := by rw [hcm, hyo, hyn, hys]
      rw [hye] at CKy CD
      rw [← hcm] at y3
      rw [← hyo] at y0
      rw [← hyn] at y1
      rw [← hys] at y2
      obtain ⟨⟨r0, r1, r2, r3⟩, p0, p1, p2, p3⟩ := new_zero wr (.int .i64 0) (.int .i64 0) (.string ⟨#[]⟩) (.slice none 0 0) 53
      have j0 : (0 : Int) ≤ (j : Int) := by omega
      have j1 : (j : Int) < (m : Int) := by omega
      clear hcm hyo hyn hys hsa hck hyl hy hmem hkn hyd hye hdi
      go_upto_region 4 with fail
      clear r0 r1 r2 r3 p0 p1 p2 p3 y0 y1 y2 y3
      obtain ⟨W3, hW3⟩ : ∃ X, wr.alloc (.cells #[.int .i64 yo, .int .i64 yn, .string ys, .slice co cm ck] 53) = X := ⟨_, rfl⟩
      obtain ⟨g3, b3, s3⟩ := cells_made _ _ _ W3 hW3
      obtain ⟨u, hu⟩ : ∃ u, u = wr.heap.size := ⟨_, rfl⟩
      rw [hW3, ← hu]
      rw [← hu] at b3
      have HG3 : Hid (Below wr.heap.size wr W3) := Lib.hid g3
      have HB3 := Lib.hid b3
      obtain ⟨y0, y1, y2, y3⟩ := quad b3
      have HUQ := Lib.hid hu
      clear g3 b3 s3 hW3 hu
      by_cases hk0 : kn = 0
      · have CK0 : Hid (∀ V, Below wr.heap.size wr V → Calls Try.prog 42 #[.agg #[.int .i64 yo, .int .i64 yn, .string ys, .slice co cm ck]] V fun e w' => e = .returned (.int .i64 0) ∧ Below V.heap.size V w') := by rw [hk0] at CKy; exact CKy
        have HRES : Hid (RES = (path ++ [(j : Int)]) ++ yd) := Lib.hid (by rw [HRW.out.1, HD.out, if_pos hk0]; simp)
        clear CKy HD hk0
        go_upto_region 5 with (go_at_call 42; (with_reducible refine (CK0.out _ HG3.out).mono ?_); rintro e w4 ⟨rfl, hb⟩; have HB4 := Lib.hid hb; clear hb y0 y1 y2 y3)
        have HW4 : Hid (Below w.heap.size w w4 ∧ Below wr.heap.size wr w4) := Lib.hid ⟨below_mono (below_mono HWW.out HG3.out (Nat.le_refl _)) HB4.out (Nat.le_refl _), below_mono HG3.out HB4.out (Nat.le_refl _)⟩
        have HU4 : Hid (u < w4.heap.size ∧ w.heap.size ≤ u ∧ (w4.alloc (.cells #[.int .i64 j] 3)).drew.heap.size = w4.heap.size + 1) := Lib.hid ⟨Nat.lt_of_lt_of_le (lt_of_heap HB3.out) HB4.out.size, by rw [HUQ.out]; exact HWW.out.size, by show (w4.alloc _).heap.size = _; simp⟩
        have HBX : Hid (∀ V : World, V.heap[u]? = w4.heap[u]? → V.cell? ⟨u, 0, none⟩ = some (.int .i64 yo) ∧ V.cell? ⟨u, 1, none⟩ = some (.int .i64 yn) ∧ V.cell? ⟨u, 2, none⟩ = some (.string ys) ∧ V.cell? ⟨u, 3, none⟩ = some (.slice co cm ck)) := Lib.hid fun V hV => quad (hV.trans ((HB4.out.block u (lt_of_heap HB3.out)).trans HB3.out))
        have HPA : Hid (PI (w4.alloc (.cells #[.int .i64 j] 3)).drew B pa pn pc path) := Lib.hid (HP.out.next (HW4.out.1.alloc HW4.out.1.size _).drew)
        have HPN : Hid (pn ≤ 10000 ∧ B ≤ (w4.alloc (.cells #[.int .i64 j] 3)).drew.heap.size ∧ w.heap.size ≤ (w4.alloc (.cells #[.int .i64 j] 3)).drew.heap.size) := Lib.hid ⟨by have := HA.out.2.1; omega, by have := HA.out.1; have := ((HW4.out.1.alloc HW4.out.1.size (.cells #[.int .i64 j] 3)).drew).size; omega, ((HW4.out.1.alloc HW4.out.1.size _).drew).size⟩
        have HTR : Hid (∀ b, S b → (w4.alloc (.cells #[.int .i64 j] 3)).drew.heap[b]? = wr.heap[b]? ∧ b < w.heap.size) := Lib.hid fun b hb => by
          have h1 := hS b hb
          have h2 := HA.out.1
          have h3 := HWW.out.size
          exact ⟨(HW4.out.2.alloc HW4.out.2.size (.cells #[.int .i64 j] 3)).block b (by omega), by omega⟩
        go_region_held3 (fun V => V.cell? ⟨u, 0, none⟩ = some (.int .i64 yo) ∧ V.cell? ⟨u, 1, none⟩ = some (.int .i64 yn) ∧ V.cell? ⟨u, 2, none⟩ = some (.string ys) ∧ V.cell? ⟨u, 3, none⟩ = some (.slice co cm ck))
          (first | exact HBX.out _ HU6.out | exact HBX.out _ HU5.out | exact HBX.out _ (Below.heap_alloc _ _ _ HU4.out.1) | exact HBX.out _ rfl)
          (first
            | (refine step_appP rfl _ _ rfl B pa pn pc path (j : Int) rfl HPA.out w4.heap.size rfl (cell_blk (show (w4.alloc (.cells #[.int .i64 j] 3)).drew.heap[w4.heap.size]? = _ from heap_alloc_new w4 _) 0) HPN.out.1 HPN.out.2.1 ?_; intro g' cap' w5 hq1 hq2 hq3 hq4; have HQ := Lib.hid (And.intro hq1 (And.intro hq2 (And.intro hq3 hq4))); have HU5 : Hid (w5.heap[u]? = w4.heap[u]?) := Lib.hid ((hq3.block u (by have := HU4.out; omega) (by intro e; have := (row_ltN HP.out e.symm).1; have := HU4.out.2.1; omega)).trans (Below.heap_alloc _ _ _ HU4.out.1)); have HT5 : Hid (∀ b, S b → w5.heap[b]? = wr.heap[b]?) := Lib.hid (fun b hb => (hq3.block b (by have := (HTR.out b hb).2; have := HPN.out.2.2; omega) (by intro e; have := (row_ltN HP.out e.symm).2; have := hS b hb; omega)).trans (HTR.out b hb).1); clear hq1 hq2 hq3 hq4)
            | (go_at_call 51; (with_reducible refine (CD.out w5 (some ⟨g', 0, none⟩) (pn + 1) cap' (path ++ [(j : Int)]) (Nat.le_trans HPN.out.2.2 HQ.out.2.2.1.size) HT5.out HQ.out.1 rfl).mono ?_); rintro e w6 ⟨⟨qa, qn, qc, rfl, hq5⟩, hq6⟩; have HQ6 := Lib.hid (And.intro hq5 hq6); have HU6 : Hid (w6.heap[u]? = w4.heap[u]?) := Lib.hid ((hq6.block u (by have := HU4.out; have := HQ.out.2.2.1.size; omega) (by intro e; have e' : u = g' := Option.some.inj e; have := HQ.out.2.2.2; rcases this with h | h; have := (row_ltN HP.out h.1).1; have := HU4.out.2.1; omega; have := HU4.out; omega)).trans HU5.out); clear hq5 hq6))
        all_goals
          go_wp2_with fail
          go_ret
          exact ⟨⟨qa, qn, qc, rfl, by rw [HRES.out]; exact HQ6.out.1⟩, grown_path (grown_more (grown_below (HW4.out.1.alloc HW4.out.1.size _).drew _) HQ.out.2.2.1) HQ6.out.2 (by rcases HQ.out.2.2.2 with h | h; exact .inl h.1; right; rw [h]; exact HPN.out.2.2)⟩
      · have hkb : ((kn : Int) == 0) = false := by simp; omega
        have HRES : Hid (RES = path ++ Xp.dst.dsts ((j : Int) + 1) (l.drop (j + 1))) := Lib.hid (by rw [HRW.out.1, HD.out, if_neg hk0])
        clear HD hk0
        obtain ⟨K, hK⟩ : ∃ K : Int, K = (kn : Nat) := ⟨_, rfl⟩
        rw [← hK] at CKy hkb
        clear hK
        go_wp2_with (go_at_call 42; (with_reducible refine (CKy.out _ HG3.out).mono ?_); rintro e w4 ⟨rfl, hb⟩; have HB4 := Lib.hid hb; clear hb y0 y1 y2 y3)
        go_roundw
        case rel => exact ⟨j + 1, by omega, by go_num, Lib.hid ⟨by rw [HRES.out]; push_cast; rfl, below_mono (below_mono HRW.out.2 HG3.out (Nat.le_refl _)) HB4.out (Nat.le_refl _)⟩⟩
        case measure => simp [intOf]; omega
    · obtain rfl : j = m := by omega
      go_wp2_with fail
      go_ret
      refine ⟨⟨pa, pn, pc, rfl, ?_⟩, grown_below HWW.out _⟩
      rw [HRW.out.1, List.drop_eq_nil_of_le (by rw [HM.out]; exact Nat.le_refl _)]
      show PI wr B pa pn pc (path ++ [])
      rw [List.append_nil]
      exact HP.out.next HWW.out
end Go.Proofs.Ythhimllddgfddaa
namespace Go.Proofs.Ythhimllddgfddaa
open Go.RowKit Go.PlainAid Go.Sort
set_option linter.unusedVariables false
set_option linter.unusedSimpArgs false
def ndK (o : Int) : Int := if o = 6 then 1 else 2
set_option maxRecDepth 100000 in
theorem needed_any (o : Int) (s : ByteArray) (a2 a3 : Option Addr) (n2 k2 n3 k3 : Nat) (w : World) : Calls Try.prog 50 #[.agg #[.int .i64 o, .string s, .slice a2 n2 k2, .slice a3 n3 k3]] w fun e w' => e = .returned (.int .i64 (ndK o)) ∧ Below w.heap.size w w' := by
  have GA := Lib.hid (term_box (.int .i64 o) (.string s) (.slice a2 n2 k2) (.slice a3 n3 k3) w)
  by_cases h : o = 6
  · subst h
    go_enter Try.func50, Try.ntmps50
    go_upto_region 1 with fail
    obtain ⟨W, hW⟩ : ∃ X, w.alloc (.cells #[.int .i64 6, .string s, .slice a2 n2 k2, .slice a3 n3 k3] 32) = X := ⟨_, rfl⟩
    obtain ⟨g1, b1, _⟩ := GA.out W hW
    rw [hW]
    obtain ⟨c0, c1, c2, c3⟩ := quad b1
    go_wp2_with fail
    exact bodyPost_ret (v := .int .i64 1) (by simp [results, Try.results50, go_sem]) rfl ⟨rfl, g1⟩
  · have he : (o == 6) = false := by simp [h]
    have hn : ndK o = 2 := by unfold ndK; rw [if_neg h]
    go_enter Try.func50, Try.ntmps50
    go_upto_region 1 with fail
    obtain ⟨W, hW⟩ : ∃ X, w.alloc (.cells #[.int .i64 o, .string s, .slice a2 n2 k2, .slice a3 n3 k3] 32) = X := ⟨_, rfl⟩
    obtain ⟨g1, b1, _⟩ := GA.out W hW
    rw [hW]
    obtain ⟨c0, c1, c2, c3⟩ := quad b1
    go_wp2_with fail
    exact bodyPost_ret (v := .int .i64 2) (by simp [results, Try.results50, go_sem]) rfl ⟨by rw [hn], g1⟩
/-- The first fault among expressions, among terms, of a term: its path. -/
def fltX (nd : Int) : Int → List Xp → Option (List Int)
  | _, [] => none
  | i, y :: t => if (y.knd : Int) = nd then fltX nd (i + 1) t else some (i :: (if y.knd = 0 then y.dst else []))
def Tr.flt : Tr → Option (List Int)
  | .mk o _ es ts => match fltX (ndK o) 0 es with
    | some l => some l
    | none => flts es.length ts
where flts : Int → List Tr → Option (List Int)
  | _, [] => none
  | i, y :: t => match y.flt with
    | some l => some (i :: l)
    | none => flts (i + 1) t
theorem Tr.flt_eq (x : Tr) : x.flt = match fltX (ndK x.op) 0 x.exprs with | some l => some l | none => Tr.flt.flts x.exprs.length x.terms := by cases x; rfl
theorem fltX_drop {l : List Xp} {j : Nat} {y : Xp} (h : l[j]? = some y) (nd i : Int) : fltX nd i (l.drop j) = if (y.knd : Int) = nd then fltX nd (i + 1) (l.drop (j + 1)) else some (i :: (if y.knd = 0 then y.dst else [])) := by
  obtain ⟨hl, rfl⟩ := List.getElem?_eq_some_iff.1 h
  rw [List.drop_eq_getElem_cons hl]
  rfl
theorem flts_drop {l : List Tr} {j : Nat} {y : Tr} (h : l[j]? = some y) (i : Int) : Tr.flt.flts i (l.drop j) = match y.flt with | some p => some (i :: p) | none => Tr.flt.flts (i + 1) (l.drop (j + 1)) := by
  obtain ⟨hl, rfl⟩ := List.getElem?_eq_some_iff.1 h
  rw [List.drop_eq_getElem_cons hl]
  rfl
/-- A path is there still behind a call that was given a longer one. -/
theorem PI.back {w5 w6 : World} {B : Nat} {pa : Option Addr} {pn pc g' cap : Nat} {path : List Int} {f : Int} (h5 : PI w5 B pa pn pc path) (h6 : PI w6 B (some ⟨g', 0, none⟩) (pn + 1) cap (path ++ [f])) (k : w5.grownBy w6 (some g')) (hor : (Value.slice pa pn pc).ownBlock = some g' ∧ cap = pc ∨ ∀ g, (Value.slice pa pn pc).ownBlock = some g → g ≠ g') : PI w6 B pa pn pc path := by
  rcases hor with ⟨ho, rfl⟩ | hne
  · rcases h5.2 with ⟨hv, _⟩ | ⟨g, cp, cur, hv, hb, hg, hc, hm, hs, ht⟩
    · injection hv with e1 e2 e3
      subst e1
      cases ho
    · injection hv with e1 e2 e3
      subst e1 e3
      injection ho with ho
      subst ho
      rcases h6.2 with ⟨hv2, _⟩ | ⟨q2, cap2, cur2, hv2, hb2, hg2, hc2, hm2, hs2, ht2⟩
      · cases hv2
      · injection hv2 with e1 e2 e3
        injection e1 with e1
        injection e1 with e1
        subst e1 e3
        refine ⟨h5.1, .inr ⟨g, cap, cur2, rfl, hb2, hg2, by omega, hm2, hs2, ?_⟩⟩
        have hln := h5.1
        have : (cur2.toList.take ((pn + 1) * 1)).take (pn * 1) = ivs path := by
          rw [ht2, ivs_snoc, List.take_left' (by simpa using hln)]
        rw [List.take_take, show min (pn * 1) ((pn + 1) * 1) = pn * 1 from by omega] at this
        exact this
  · exact h5.keep k fun g hg e => hne g hg (Option.some.inj e)
theorem wpList_appP {w : World} {ops : Array Oper} {rest : List Oper} {o : Oper} {a : Act} {Q : Exit → Act → World → Prop} (hgd : o.guard = none) (s x : Operand)
    (ho : o.op = .call { callee := .builtin .append, args := #[s, x], argTypes := #[56, 56] })
    (B : Nat) (va : Option Addr) (n c : Nat) (l : List Int) (f : Int) (hs : a.eval s = .slice va n c) (hown : PI w B va n c l) (g : Nat) (hx : a.eval x = .slice (some ⟨g, 0, none⟩) 1 1)
    (hc : w.cell? ⟨g, 0, none⟩ = some (.int .i64 f)) (hn : n ≤ 10000) (hB : B ≤ w.heap.size)
    (h : ∀ g' cap w', PI w' B (some ⟨g', 0, none⟩) (n + 1) cap (l ++ [f]) → PI w' B va n c l → w.grownBy w' (Value.slice va n c).ownBlock → ((Value.slice va n c).ownBlock = some g' ∧ cap = c ∨ g' = w.heap.size) → wpList Try.prog ops Q rest (a.put o.dst (.slice (some ⟨g', 0, none⟩) (n + 1) cap)) w') :
    wpList Try.prog ops Q (o :: rest) a w := by
  refine wpList_plain hgd fun K hK => ?_
  obtain ⟨g', cap, w', hr, h2, h3, h4, h5⟩ := run_app_path o.type hown f g hc hn hB
  unfold Oper.wp execOp
  simp only [ho, resolve, invoke, builtin, Sem.run_bind, Sem.run_pure, Result.andThen_ok, List.map_toArray, List.map_cons, List.map_nil, hs, hx, hr]
  exact hK _ _ (h g' cap w' h2 h3 h4 h5)
/-- What fault gives. -/
def FtP (B : Nat) (pa : Option Addr) (pn pc : Nat) (path : List Int) (res : Option (List Int)) (w : World) (e : Ending) (w' : World) : Prop :=
  ((∃ l qa qn qc, res = some l ∧ e = .returned (.tuple #[.slice qa qn qc, .bool true]) ∧ PI w' B qa qn qc (path ++ l)) ∨ (res = none ∧ e = .returned (.tuple #[.slice none 0 0, .bool false]) ∧ PI w' B pa pn pc path)) ∧ w.grownBy w' (Value.slice pa pn pc).ownBlock
set_option maxRecDepth 100000 in
set_option maxHeartbeats 16000000 in
theorem fault_any {S : Nat → Prop} {B : Nat} (hS : ∀ b, S b → b < B) (x : Tr) : ∀ (eo : Option Addr) (ek : Nat) (tb : Option Addr) (tk : Nat) (w : World) (pa : Option Addr) (pn pc : Nat) (path : List Int), B ≤ w.heap.size → x.blt = true → TrOk S w x eo ek tb tk → x.cnt < 1000 → PI w B pa pn pc path → pn + x.dep ≤ 9000 →
    Calls Try.prog 35 #[trV x eo ek tb tk, .slice pa pn pc] w (FtP B pa pn pc path x.flt w) := by
  induction x using Tr.ind with
  | h x IH =>
  intro eo ek tb tk w pa pn pc path hB hb ht hcn hp hn
  have hbe := x.blt_eq
  rw [hb, tblts_all] at hbe
  have hbe2 := hbe.symm
  simp only [Bool.and_eq_true, List.all_eq_true] at hbe2
  have hfl := x.flt_eq
  have hde := x.dep_eq
  have hce := x.cnt_eq
  obtain ⟨l, hl⟩ : ∃ l, l = x.exprs := ⟨_, rfl⟩
  obtain ⟨l2, hl2⟩ : ∃ l, l = x.terms := ⟨_, rfl⟩
  have hec := ht.ec
  have htc := ht.tc
  have hex := ht.ex
  have hte := ht.te
  rw [← hl] at hbe2 hfl hde hce hec hex
  rw [← hl2] at IH hbe2 hfl hde hce htc hte
  have HX : Hid (∀ W, Below w.heap.size w W → ExL S W l eo) := Lib.hid fun W hW => hex.stay (fun _ h => h) fun b hb => hW.block b (by have := hS b hb; omega)
  have HY : Hid (∀ W : World, (∀ b, S b → W.heap[b]? = w.heap[b]?) → TrL S W l2 tb) := Lib.hid fun W hW => hte.stay (fun _ h => h) hW
  have CK : Hid (∀ y ∈ l, ∀ (co : Option Addr) (ck : Nat), y.args.length ≤ ck → ∀ W, Below w.heap.size w W → ExL S W y.args co → Calls Try.prog 42 #[exV y co ck] W fun e w' => e = .returned (.int .i64 (y.knd : Nat)) ∧ Below W.heap.size W w') := Lib.hid fun y hy co ck h1 W hW h2 => kind_any (S := S) (B := B) hS y co ck W (by have := hW.size; omega) (hbe2.1.2 y hy) h1 h2
  have HI := Lib.hid IH
  have HBL := Lib.hid (And.intro hbe2.1.2 hbe2.2)
  have HA := Lib.hid (And.intro hB (And.intro hn (And.intro hde (And.intro hce hcn))))
  have HP := Lib.hid hp
  obtain ⟨m, hm⟩ : ∃ m, m = l.length := ⟨_, rfl⟩
  obtain ⟨m2, hm2⟩ : ∃ m, m = l2.length := ⟨_, rfl⟩
  have HM := Lib.hid hm
  have HM2 := Lib.hid hm2
  have hm3 : m < 1000 ∧ m2 < 1000 := by
    have := len_cnts l
    have := len_tcnts l2
    omega
  obtain ⟨hm3, hm4⟩ := hm3
  obtain ⟨xo, hxo⟩ : ∃ v, v = x.op := ⟨_, rfl⟩
  obtain ⟨xs, hxs⟩ : ∃ v, v = x.nm := ⟨_, rfl⟩
  rw [show trV x eo ek tb tk = .agg #[.int .i64 xo, .string xs, .slice eo m ek, .slice tb m2 tk] from by rw [hm, hm2, hl, hl2, hxo, hxs]]
  rw [← hxo, ← hm] at hfl
  obtain ⟨RES, hRES⟩ : ∃ v, v = x.flt := ⟨_, rfl⟩
  rw [← hRES] at hfl ⊢
  have HR := Lib.hid hfl
  have CN : Hid (∀ W, Calls Try.prog 50 #[.agg #[.int .i64 xo, .string xs, .slice eo m ek, .slice tb m2 tk]] W fun e w' => e = .returned (.int .i64 (ndK xo)) ∧ Below W.heap.size W w') := Lib.hid fun W => needed_any xo xs eo tb m ek m2 tk W
  obtain ⟨nd, hnd⟩ : ∃ v, v = ndK xo := ⟨_, rfl⟩
  rw [← hnd] at CN HR
  have hnd2 : nd = 1 ∨ nd = 2 := by rw [hnd]; unfold ndK; split <;> simp
  have HND := Lib.hid hnd2
  have GA := Lib.hid (term_box (.int .i64 xo) (.string xs) (.slice eo m ek) (.slice tb m2 tk) w)
  clear IH hB hb ht hcn hp hn hbe hbe2 hec htc hex hte hl hl2 hm hm2 hxo hxs hRES hde hce hfl hnd hnd2
  go_enter Try.func35, Try.ntmps35
  go_upto_region 1 with fail
  obtain ⟨z, hz⟩ : ∃ z, z = w.heap.size := ⟨_, rfl⟩
  obtain ⟨W, hW⟩ : ∃ X, w.alloc (.cells #[.int .i64 xo, .string xs, .slice eo m ek, .slice tb m2 tk] 32) = X := ⟨_, rfl⟩
  obtain ⟨g1, b1, _⟩ := GA.out W hW
  rw [hW, ← hz]
  rw [← hz] at b1
  have HG := Lib.hid g1
  have HB1 := Lib.hid b1
  have HZ := Lib.hid hz
  obtain ⟨c0, c1, c2, c3⟩ := quad b1
  clear hW g1 b1 GA hz
  go_upto_region 2 with fail
  clear c0 c1 c2 c3
  go_loopw [15] (fun v wr => ∃ j : Nat, j ≤ m ∧ v = .int .i64 j ∧ Hid (RES = (match fltX nd (j : Int) (l.drop j) with | some p => some p | none => Tr.flt.flts m l2) ∧ Below W.heap.size W wr)) (fun v _ => m - (intOf v).toNat)
  case atStart => exact ⟨0, by omega, rfl, Lib.hid ⟨HR.out, Below.refl _ _⟩⟩
  case round =>
    obtain ⟨j, hj, rfl, HRW⟩ := hrel
    have HWW := Lib.hid (below_mono HG.out HRW.out.2 (Nat.le_refl _))
    by_cases hlt : j < m
    · obtain ⟨y, hy⟩ : ∃ y, l[j]? = some y := ⟨_, List.getElem?_eq_getElem (by rw [← HM.out]; exact hlt)⟩
      have hmem := List.mem_of_getElem? hy
      have hdi := (cnts_in hy).2
      obtain ⟨a, co, ck, rfl, hsa, hck, ⟨y0, y1, y2, y3⟩, hyl⟩ := (HX.out wr HWW.out).get hy
      have HD : Hid (fltX nd (j : Int) (l.drop j) = if (y.knd : Int) = nd then fltX nd ((j : Int) + 1) (l.drop (j + 1)) else some ((j : Int) :: (if y.knd = 0 then y.dst else []))) := Lib.hid (fltX_drop hy nd j)
      have CKy : Hid (∀ V, Below wr.heap.size wr V → Calls Try.prog 42 #[exV y co ck] V fun e w' => e = .returned (.int .i64 (y.knd : Nat)) ∧ Below V.heap.size V w') := Lib.hid fun V hV => CK.out y hmem co ck hck V (below_mono HWW.out hV (Nat.le_refl _)) (hyl.stay (fun _ h => h) fun b hb => hV.block b (by have := hS b hb; have := HA.out.1; have := HWW.out.size; omega))
      have CD : Hid (∀ V va n c p2, w.heap.size ≤ V.heap.size → (∀ b, S b → V.heap[b]? = wr.heap[b]?) → PI V B va n c p2 → n = pn + 1 → Calls Try.prog 51 #[exV y co ck, .slice va n c] V (DpP B (Value.slice va n c).ownBlock (p2 ++ y.dst) V)) := Lib.hid fun V va n c p2 hs hV hp hn => deepest_any (S := S) (B := B) hS y co ck V va n c p2 (by have := HA.out.1; omega) (HBL.out.1 y hmem) hck (hyl.stay (fun _ h => h) hV) hp (by
        have h1 := HA.out.2.1
        have h2 := HA.out.2.2.1
        omega)
      obtain ⟨kn, hkn⟩ : ∃ v, v = y.knd := ⟨_, rfl⟩
      obtain ⟨yd, hyd⟩ : ∃ v, v = y.dst := ⟨_, rfl⟩
      rw [← hkn, ← hyd] at HD
      rw [← hkn] at CKy
      rw [← hyd] at CD
      obtain ⟨cm, hcm⟩ : ∃ c, c = y.args.length := ⟨_, rfl⟩
      obtain ⟨yo, hyo⟩ : ∃ v, v = y.op := ⟨_, rfl⟩
      obtain ⟨yn, hyn⟩ : ∃ v, v = y.n := ⟨_, rfl⟩
      obtain ⟨ys, hys⟩ : ∃ v, v = y.nm := ⟨_, rfl⟩
      have hye : exV y co ck = .agg #[.int .i64 yo, .int .i64 yn, .string ys, .slice co cm ck] := by rw [hcm, hyo, hyn, hys]
      rw [hye] at CKy CD
      rw [← hcm] at y3
      rw [← hyo] at y0
      rw [← hyn] at y1
      rw [← hys] at y2
      obtain ⟨⟨r0, r1, r2, r3⟩, p0, p1, p2, p3⟩ := new_zero wr (.int .i64 0) (.int .i64 0) (.string ⟨#[]⟩) (.slice none 0 0) 53
      have j0 : (0 : Int) ≤ (j : Int) := by omega
      have j1 : (j : Int) < (m : Int) := by omega
      clear hcm hyo hyn hys hsa hck hyl hy hmem hkn hyd hye hdi
      go_upto_region 4 with fail
      clear r0 r1 r2 r3 p0 p1 p2 p3 y0 y1 y2 y3
      obtain ⟨W3, hW3⟩ : ∃ X, wr.alloc (.cells #[.int .i64 yo, .int .i64 yn, .string ys, .slice co cm ck] 53) = X := ⟨_, rfl⟩
      obtain ⟨g3, b3, s3⟩ := cells_made _ _ _ W3 hW3
      obtain ⟨u, hu⟩ : ∃ u, u = wr.heap.size := ⟨_, rfl⟩
      rw [hW3, ← hu]
      rw [← hu] at b3
      have HG3 : Hid (Below wr.heap.size wr W3) := Lib.hid g3
      have HB3 := Lib.hid b3
      have HUQ := Lib.hid hu
      obtain ⟨y0, y1, y2, y3⟩ := quad b3
      clear g3 b3 s3 hW3 hu
      have HZ3 : Hid (∀ V, Below W3.heap.size W3 V → V.heap[z]? = some (.cells #[.int .i64 xo, .string xs, .slice (some a) m ek, .slice tb m2 tk] 32 (0, 0))) := Lib.hid fun V hV => ((below_mono (below_mono HRW.out.2 HG3.out (Nat.le_refl _)) hV (Nat.le_refl _)).block z (lt_of_heap HB1.out)).trans HB1.out
      obtain ⟨K, hK⟩ : ∃ K : Int, K = (kn : Nat) := ⟨_, rfl⟩
      have HKN := Lib.hid hK
      rw [← hK] at CKy HD
      clear hK
      by_cases hkn : K = nd
      · subst hkn
        have HRES : Hid (RES = (match fltX K ((j : Int) + 1) (l.drop (j + 1)) with | some p => some p | none => Tr.flt.flts m l2)) := Lib.hid (by rw [HRW.out.1, HD.out, if_pos rfl])
        have hKK : (K == K) = true := by simp
        go_wp2_with (first | (go_at_call 42; (with_reducible refine (CKy.out _ HG3.out).mono ?_); rintro e w4 ⟨rfl, hb⟩; have HB4 := Lib.hid hb; clear hb y0 y1 y2 y3; obtain ⟨c0, c1, c2, c3⟩ := quad (HZ3.out w4 HB4.out)) | (go_at_call 50; (with_reducible refine (CN.out _).mono ?_); rintro e w5 ⟨rfl, hb⟩; have HB5 := Lib.hid hb; clear hb c0 c1 c2 c3))
        go_roundw
        case rel => exact ⟨j + 1, by omega, by go_num, Lib.hid ⟨by rw [HRES.out]; push_cast; rfl, below_mono (below_mono (below_mono HRW.out.2 HG3.out (Nat.le_refl _)) HB4.out (Nat.le_refl _)) HB5.out (Nat.le_refl _)⟩⟩
        case measure => simp [intOf]; omega
      · by_cases hk0 : K = 0
        · subst hk0
          have hk1 : ((0 : Int) == nd) = false := by simp; exact hkn
          have HRES : Hid (RES = some ((j : Int) :: yd)) := Lib.hid (by rw [HRW.out.1, HD.out, if_neg hkn, if_pos (by have := HKN.out; omega)])
          clear hkn
          go_upto_region 8 with (first | (go_at_call 42; (with_reducible refine (CKy.out _ HG3.out).mono ?_); rintro e w4' ⟨rfl, hb⟩; have HB4' := Lib.hid hb; clear hb y0 y1 y2 y3; obtain ⟨c0, c1, c2, c3⟩ := quad (HZ3.out w4' HB4'.out)) | (go_at_call 50; (with_reducible refine (CN.out _).mono ?_); rintro e w4 ⟨rfl, hb⟩; have HB4 := Lib.hid (below_mono HB4'.out hb (Nat.le_refl _)); clear hb c0 c1 c2 c3))
          have HW4 : Hid (Below w.heap.size w w4 ∧ Below wr.heap.size wr w4) := Lib.hid ⟨below_mono (below_mono HWW.out HG3.out (Nat.le_refl _)) HB4.out (Nat.le_refl _), below_mono HG3.out HB4.out (Nat.le_refl _)⟩
          have HU4 : Hid (u < w4.heap.size ∧ w.heap.size ≤ u ∧ (w4.alloc (.cells #[.int .i64 j] 3)).drew.heap.size = w4.heap.size + 1) := Lib.hid ⟨Nat.lt_of_lt_of_le (lt_of_heap HB3.out) HB4.out.size, by rw [HUQ.out]; exact HWW.out.size, by show (w4.alloc _).heap.size = _; simp⟩
          have HBX : Hid (∀ V : World, V.heap[u]? = w4.heap[u]? → V.cell? ⟨u, 0, none⟩ = some (.int .i64 yo) ∧ V.cell? ⟨u, 1, none⟩ = some (.int .i64 yn) ∧ V.cell? ⟨u, 2, none⟩ = some (.string ys) ∧ V.cell? ⟨u, 3, none⟩ = some (.slice co cm ck)) := Lib.hid fun V hV => quad (hV.trans ((HB4.out.block u (lt_of_heap HB3.out)).trans HB3.out))
          have HPA : Hid (PI (w4.alloc (.cells #[.int .i64 j] 3)).drew B pa pn pc path) := Lib.hid (HP.out.next (HW4.out.1.alloc HW4.out.1.size _).drew)
          have HPN : Hid (pn ≤ 10000 ∧ B ≤ (w4.alloc (.cells #[.int .i64 j] 3)).drew.heap.size ∧ w.heap.size ≤ (w4.alloc (.cells #[.int .i64 j] 3)).drew.heap.size) := Lib.hid ⟨by have := HA.out.2.1; omega, by have := HA.out.1; have := ((HW4.out.1.alloc HW4.out.1.size (.cells #[.int .i64 j] 3)).drew).size; omega, ((HW4.out.1.alloc HW4.out.1.size _).drew).size⟩
          have HTR : Hid (∀ b, S b → (w4.alloc (.cells #[.int .i64 j] 3)).drew.heap[b]? = wr.heap[b]? ∧ b < w.heap.size) := Lib.hid fun b hb => by
            have h1 := hS b hb
            have h2 := HA.out.1
            have h3 := HWW.out.size
            exact ⟨(HW4.out.2.alloc HW4.out.2.size (.cells #[.int .i64 j] 3)).block b (by omega), by omega⟩
          go_region_held3 (fun V => V.cell? ⟨u, 0, none⟩ = some (.int .i64 yo) ∧ V.cell? ⟨u, 1, none⟩ = some (.int .i64 yn) ∧ V.cell? ⟨u, 2, none⟩ = some (.string ys) ∧ V.cell? ⟨u, 3, none⟩ = some (.slice co cm ck))
            (first | exact HBX.out _ HU6.out | exact HBX.out _ HU5.out | exact HBX.out _ (Below.heap_alloc _ _ _ HU4.out.1) | exact HBX.out _ rfl)
            (first
              | (refine step_appP rfl _ _ rfl B pa pn pc path (j : Int) rfl HPA.out w4.heap.size rfl (cell_blk (show (w4.alloc (.cells #[.int .i64 j] 3)).drew.heap[w4.heap.size]? = _ from heap_alloc_new w4 _) 0) HPN.out.1 HPN.out.2.1 ?_; intro g' cap' w5 hq1 hq2 hq3 hq4; have HQ := Lib.hid (And.intro hq1 (And.intro hq2 (And.intro hq3 hq4))); have HU5 : Hid (w5.heap[u]? = w4.heap[u]?) := Lib.hid ((hq3.block u (by have := HU4.out; omega) (by intro e; have := (row_ltN HP.out e.symm).1; have := HU4.out.2.1; omega)).trans (Below.heap_alloc _ _ _ HU4.out.1)); have HT5 : Hid (∀ b, S b → w5.heap[b]? = wr.heap[b]?) := Lib.hid (fun b hb => (hq3.block b (by have := (HTR.out b hb).2; have := HPN.out.2.2; omega) (by intro e; have := (row_ltN HP.out e.symm).2; have := hS b hb; omega)).trans (HTR.out b hb).1); clear hq1 hq2 hq3 hq4)
              | (go_at_call 51; (with_reducible refine (CD.out w5 (some ⟨g', 0, none⟩) (pn + 1) cap' (path ++ [(j : Int)]) (Nat.le_trans HPN.out.2.2 HQ.out.2.2.1.size) HT5.out HQ.out.1 rfl).mono ?_); rintro e w6 ⟨⟨qa, qn, qc, rfl, hq5⟩, hq6⟩; have HQ6 := Lib.hid (And.intro hq5 hq6); have HU6 : Hid (w6.heap[u]? = w4.heap[u]?) := Lib.hid ((hq6.block u (by have := HU4.out; have := HQ.out.2.2.1.size; omega) (by intro e; have e' : u = g' := Option.some.inj e; have := HQ.out.2.2.2; rcases this with h | h; have := (row_ltN HP.out h.1).1; have := HU4.out.2.1; omega; have := HU4.out; omega)).trans HU5.out); clear hq5 hq6))
          all_goals
            have hfin : FtP B pa pn pc path RES w (.returned (.tuple #[.slice qa qn qc, .bool true])) w6 := ⟨.inl ⟨_, qa, qn, qc, HRES.out, rfl, by have := HQ6.out.1; rwa [List.append_assoc] at this⟩, grown_path (grown_more (grown_below (HW4.out.1.alloc HW4.out.1.size _).drew _) HQ.out.2.2.1) HQ6.out.2 (by rcases HQ.out.2.2.2 with h | h; exact .inl h.1; right; rw [h]; exact HPN.out.2.2)⟩
            go_wp2_with fail
            go_ret2
            exact hfin
        · have hk1 : (K == nd) = false := by simp; exact hkn
          have hk2 : (K == 0) = false := by simp; exact hk0
          have HRES : Hid (RES = some [(j : Int)]) := Lib.hid (by rw [HRW.out.1, HD.out, if_neg hkn, if_neg (by have := HKN.out; omega)])
          clear hkn hk0
          go_upto_region 5 with (first | (go_at_call 42; (with_reducible refine (CKy.out _ HG3.out).mono ?_); rintro e w4' ⟨rfl, hb⟩; have HB4' := Lib.hid hb; clear hb y0 y1 y2 y3; obtain ⟨c0, c1, c2, c3⟩ := quad (HZ3.out w4' HB4'.out)) | (go_at_call 50; (with_reducible refine (CN.out _).mono ?_); rintro e w4 ⟨rfl, hb⟩; have HB4 := Lib.hid (below_mono HB4'.out hb (Nat.le_refl _)); clear hb c0 c1 c2 c3))
          have HW4 : Hid (Below w.heap.size w w4) := Lib.hid (below_mono (below_mono HWW.out HG3.out (Nat.le_refl _)) HB4.out (Nat.le_refl _))
          have HPA : Hid (PI (w4.alloc (.cells #[.int .i64 j] 3)) B pa pn pc path) := Lib.hid (HP.out.next (HW4.out.alloc HW4.out.size _))
          have HPN : Hid (pn ≤ 10000 ∧ B ≤ (w4.alloc (.cells #[.int .i64 j] 3)).heap.size) := Lib.hid ⟨by have := HA.out.2.1; omega, by have := HA.out.1; have := (HW4.out.alloc HW4.out.size (.cells #[.int .i64 j] 3)).size; omega⟩
          go_wp2_with (at_builtin; refine wpList_appP rfl _ _ rfl B pa pn pc path (j : Int) rfl HPA.out w4.heap.size rfl (cell_blk (heap_alloc_new w4 _) 0) HPN.out.1 HPN.out.2 ?_; intro g' cap' w5 hq1 hq2 hq3 hq4; have HQ := Lib.hid (And.intro hq1 hq3); clear hq1 hq2 hq3 hq4)
          have hfin : FtP B pa pn pc path RES w (.returned (.tuple #[.slice (some ⟨g', 0, none⟩) (pn + 1) cap', .bool true])) w5 := ⟨.inl ⟨_, _, _, _, HRES.out, rfl, HQ.out.1⟩, grown_more (grown_below (HW4.out.alloc HW4.out.size _) _) HQ.out.2⟩
          go_ret2
          exact hfin
    · obtain rfl : j = m := by omega
      have HRES : Hid (RES = Tr.flt.flts (j : Int) l2) := Lib.hid (by rw [HRW.out.1, List.drop_eq_nil_of_le (by rw [HM.out]; exact Nat.le_refl _)]; rfl)
      obtain ⟨c0, c1, c2, c3⟩ := quad ((HRW.out.2.block z (lt_of_heap HB1.out)).trans HB1.out)
      go_upto_region 11 with fail
      clear c0 c1 c2 c3
      go_loopw [42] (fun v wr2 => ∃ i : Nat, i ≤ m2 ∧ v = .int .i64 i ∧ Hid (RES = Tr.flt.flts ((j : Int) + i) (l2.drop i) ∧ PI wr2 B pa pn pc path ∧ w.grownBy wr2 (Value.slice pa pn pc).ownBlock ∧ wr2.heap[z]? = W.heap[z]?)) (fun v _ => m2 - (intOf v).toNat)
      case atStart => exact ⟨0, by omega, rfl, Lib.hid ⟨by rw [HRES.out]; simp, HP.out.next HWW.out, grown_below HWW.out _, HRW.out.2.block z (lt_of_heap HB1.out)⟩⟩
      case round =>
        obtain ⟨i, hi, rfl, HR2⟩ := hrel
        have HTS : Hid (∀ b, S b → wr.heap[b]? = w.heap[b]? ∧ b < w.heap.size) := Lib.hid fun b hb => by
          have h1 := hS b hb
          have h2 := HA.out.1
          exact ⟨HR2.out.2.2.1.block b (by omega) (by intro e; have := (row_ltN HP.out e.symm).2; omega), by omega⟩
        by_cases hlt2 : i < m2
        · obtain ⟨y, hy⟩ : ∃ y, l2[i]? = some y := ⟨_, List.getElem?_eq_getElem (by rw [← HM2.out]; exact hlt2)⟩
          have hmem := List.mem_of_getElem? hy
          have hci := tcnts_in hy
          obtain ⟨a, eo2, ek2, to2, tk2, rfl, hsa, hek, htk, ⟨y0, y1, y2, y3⟩, hye, hyt⟩ := (HY.out wr (fun b hb => (HTS.out b hb).1)).get hy
          have HD : Hid (Tr.flt.flts ((j : Int) + i) (l2.drop i) = match y.flt with | some p => some (((j : Int) + i) :: p) | none => Tr.flt.flts ((j : Int) + i + 1) (l2.drop (i + 1))) := Lib.hid (flts_drop hy _)
          have CF : Hid (∀ V va n c p2, w.heap.size ≤ V.heap.size → (∀ b, S b → V.heap[b]? = wr.heap[b]?) → PI V B va n c p2 → n = pn + 1 → Calls Try.prog 35 #[trV y eo2 ek2 to2 tk2, .slice va n c] V (FtP B va n c p2 y.flt V)) := Lib.hid fun V va n c p2 hs hV hp hn => HI.out y hmem eo2 ek2 to2 tk2 V va n c p2 (by have := HA.out.1; omega) (HBL.out.2 y hmem) ⟨hek, htk, hye.stay (fun _ h => h) hV, hyt.stay (fun _ h => h) hV⟩ (by have h4 := HA.out.2.2.2.1; have h5 := HA.out.2.2.2.2; omega) hp (by
            have h1 := HA.out.2.1
            have h2 := HA.out.2.2.1
            omega)
          obtain ⟨fy, hfy⟩ : ∃ v, v = y.flt := ⟨_, rfl⟩
          rw [← hfy] at HD CF
          obtain ⟨em, hem⟩ : ∃ c, c = y.exprs.length := ⟨_, rfl⟩
          obtain ⟨tm, htm⟩ : ∃ c, c = y.terms.length := ⟨_, rfl⟩
          obtain ⟨yo, hyo⟩ : ∃ v, v = y.op := ⟨_, rfl⟩
          obtain ⟨ys, hys⟩ : ∃ v, v = y.nm := ⟨_, rfl⟩
          rw [show trV y eo2 ek2 to2 tk2 = .agg #[.int .i64 yo, .string ys, .slice eo2 em ek2, .slice to2 tm tk2] from by rw [hem, htm, hyo, hys]] at CF
          rw [← hem] at y2
          rw [← htm] at y3
          rw [← hyo] at y0
          rw [← hys] at y1
          obtain ⟨⟨r0, r1, r2, r3⟩, p0, p1, p2, p3⟩ := new_zero wr (.int .i64 0) (.string ⟨#[]⟩) (.slice none 0 0) (.slice none 0 0) 32
          have j0 : (0 : Int) ≤ (i : Int) := by omega
          have j1 : (i : Int) < (m2 : Int) := by omega
          clear hfy hem htm hyo hys hsa hek htk hye hyt hy hmem hci
          go_upto_region 13 with fail
          clear r0 r1 r2 r3 p0 p1 p2 p3 y0 y1 y2 y3
          obtain ⟨W3, hW3⟩ : ∃ X, wr.alloc (.cells #[.int .i64 yo, .string ys, .slice eo2 em ek2, .slice to2 tm tk2] 32) = X := ⟨_, rfl⟩
          obtain ⟨g3, b3, s3⟩ := cells_made _ _ _ W3 hW3
          obtain ⟨u, hu⟩ : ∃ u, u = wr.heap.size := ⟨_, rfl⟩
          rw [hW3, ← hu]
          rw [← hu] at b3 s3
          obtain ⟨P, hP⟩ : ∃ P : Int, P = (j : Int) + (i : Int) := ⟨_, rfl⟩
          have hsP : IntKind.i64.wrap ((j : Int) + (i : Int)) = P := by rw [hP]; exact IntWalk.i64_in _ (by omega)
          rw [← hP] at HD HR2
          have HPQ := Lib.hid hP
          have HGW : Hid (w.grownBy (W3.alloc (.cells #[.int .i64 P] 3)).drew (Value.slice pa pn pc).ownBlock ∧ Below wr.heap.size wr (W3.alloc (.cells #[.int .i64 P] 3)).drew) := Lib.hid (by
            have hb2 : Below wr.heap.size wr (W3.alloc (.cells #[.int .i64 P] 3)).drew := (g3.alloc g3.size _).drew
            exact ⟨grown_more HR2.out.2.2.1 (grown_below hb2 _), hb2⟩)
          have HU4 : Hid (u < W3.heap.size ∧ w.heap.size ≤ u ∧ (W3.alloc (.cells #[.int .i64 P] 3)).drew.heap.size = W3.heap.size + 1) := Lib.hid ⟨by omega, by rw [hu]; exact HR2.out.2.2.1.size, by show (W3.alloc _).heap.size = _; simp⟩
          have HZW : Hid (W3.heap[z]? = some (.cells #[.int .i64 xo, .string xs, .slice eo j ek, .slice (some a) m2 tk] 32 (0, 0)) ∧ z < wr.heap.size ∧ w.heap.size ≤ z) := Lib.hid (by
            have h1 := HR2.out.2.2.2.trans HB1.out
            exact ⟨(g3.block z (lt_of_heap h1)).trans h1, lt_of_heap h1, by have := HZ.out; omega⟩)
          have HBX : Hid (∀ V : World, V.heap[u]? = W3.heap[u]? ∧ V.heap[z]? = W3.heap[z]? → (V.cell? ⟨u, 0, none⟩ = some (.int .i64 yo) ∧ V.cell? ⟨u, 1, none⟩ = some (.string ys) ∧ V.cell? ⟨u, 2, none⟩ = some (.slice eo2 em ek2) ∧ V.cell? ⟨u, 3, none⟩ = some (.slice to2 tm tk2)) ∧ V.cell? ⟨z, 2, none⟩ = some (.slice eo j ek)) := Lib.hid fun V hV => ⟨quad (hV.1.trans b3), cell_blk (hV.2.trans HZW.out.1) 2⟩
          have HPA : Hid (PI (W3.alloc (.cells #[.int .i64 P] 3)).drew B pa pn pc path) := Lib.hid (HR2.out.2.1.next HGW.out.2)
          have HPN : Hid (pn ≤ 10000 ∧ B ≤ (W3.alloc (.cells #[.int .i64 P] 3)).drew.heap.size ∧ w.heap.size ≤ (W3.alloc (.cells #[.int .i64 P] 3)).drew.heap.size) := Lib.hid ⟨by have := HA.out.2.1; omega, by have := HA.out.1; have := HGW.out.1.size; omega, HGW.out.1.size⟩
          have HTR : Hid (∀ b, S b → (W3.alloc (.cells #[.int .i64 P] 3)).drew.heap[b]? = wr.heap[b]?) := Lib.hid fun b hb => HGW.out.2.block b (by have := (HTS.out b hb).2; have := HR2.out.2.2.1.size; omega)
          have HUU : Hid (W3.heap.size = u + 1 ∧ u = wr.heap.size) := Lib.hid ⟨s3, hu⟩
          clear g3 b3 s3 hW3 hu hP
          obtain ⟨_, c2⟩ := HBX.out W3 ⟨rfl, rfl⟩
          cases fy with
          | none =>
            have HRES : Hid (RES = Tr.flt.flts (P + 1) (l2.drop (i + 1))) := Lib.hid (by rw [HR2.out.1, HD.out])
            have CF2 : Hid (∀ V va n c p2, w.heap.size ≤ V.heap.size → (∀ b, S b → V.heap[b]? = wr.heap[b]?) → PI V B va n c p2 → n = pn + 1 → Calls Try.prog 35 #[.agg #[.int .i64 yo, .string ys, .slice eo2 em ek2, .slice to2 tm tk2], .slice va n c] V fun e w' => e = .returned (.tuple #[.slice none 0 0, .bool false]) ∧ PI w' B va n c p2 ∧ V.grownBy w' (Value.slice va n c).ownBlock) := Lib.hid fun V va n c p2 h1 h2 h3 h4 => (CF.out V va n c p2 h1 h2 h3 h4).mono fun e w' ⟨h, hg⟩ => by
              rcases h with ⟨q, _, _, _, hq, _⟩ | ⟨_, he, hpi⟩
              · cases hq
              · exact ⟨he, hpi, hg⟩
            clear CF
            go_region_held3 (fun V => (V.cell? ⟨u, 0, none⟩ = some (.int .i64 yo) ∧ V.cell? ⟨u, 1, none⟩ = some (.string ys) ∧ V.cell? ⟨u, 2, none⟩ = some (.slice eo2 em ek2) ∧ V.cell? ⟨u, 3, none⟩ = some (.slice to2 tm tk2)) ∧ V.cell? ⟨z, 2, none⟩ = some (.slice eo j ek))
              (first | exact HBX.out _ HU6.out | exact HBX.out _ HU5.out | exact HBX.out _ ⟨Below.heap_alloc _ _ _ HU4.out.1, Below.heap_alloc _ _ _ (lt_of_heap HZW.out.1)⟩ | exact HBX.out _ ⟨rfl, rfl⟩)
              (first
                | (refine step_appP rfl _ _ rfl B pa pn pc path P rfl HPA.out W3.heap.size rfl (cell_blk (show (W3.alloc (.cells #[.int .i64 P] 3)).drew.heap[W3.heap.size]? = _ from heap_alloc_new W3 _) 0) HPN.out.1 HPN.out.2.1 ?_; intro g' cap' w5 hq1 hq2 hq3 hq4; have HQ := Lib.hid (And.intro hq1 (And.intro hq2 (And.intro hq3 hq4))); have HU5 : Hid (w5.heap[u]? = W3.heap[u]? ∧ w5.heap[z]? = W3.heap[z]?) := Lib.hid ⟨(hq3.block u (by have := HU4.out; omega) (by intro e; have := (row_ltN HP.out e.symm).1; have := HU4.out.2.1; omega)).trans (Below.heap_alloc _ _ _ HU4.out.1), (hq3.block z (by have := HU4.out; have := HZW.out.2.1; have := HUU.out; omega) (by intro e; have := (row_ltN HP.out e.symm).1; have := HZW.out.2.2; omega)).trans (Below.heap_alloc _ _ _ (lt_of_heap HZW.out.1))⟩; have HT5 : Hid (∀ b, S b → w5.heap[b]? = wr.heap[b]?) := Lib.hid (fun b hb => (hq3.block b (by have := (HTS.out b hb).2; have := HPN.out.2.2; omega) (by intro e; have := (row_ltN HP.out e.symm).2; have := hS b hb; omega)).trans (HTR.out b hb)); clear hq1 hq2 hq3 hq4)
                | (go_at_call 35; (with_reducible refine (CF2.out w5 (some ⟨g', 0, none⟩) (pn + 1) cap' (path ++ [P]) (Nat.le_trans HPN.out.2.2 HQ.out.2.2.1.size) HT5.out HQ.out.1 rfl).mono ?_); rintro e w6 ⟨rfl, hq5, hq6⟩; have HQ6 := Lib.hid (And.intro hq5 hq6); have HU6 : Hid (w6.heap[u]? = W3.heap[u]? ∧ w6.heap[z]? = W3.heap[z]?) := Lib.hid ⟨(hq6.block u (by have := HU4.out; have := HQ.out.2.2.1.size; omega) (by intro e; have e' : u = g' := Option.some.inj e; have := HQ.out.2.2.2; rcases this with h | h; have := (row_ltN HP.out h.1).1; have := HU4.out.2.1; omega; have := HU4.out; omega)).trans HU5.out.1, (hq6.block z (by have := HU4.out; have := HQ.out.2.2.1.size; have := HZW.out.2.1; have := HUU.out; omega) (by intro e; have e' : z = g' := Option.some.inj e; have := HQ.out.2.2.2; rcases this with h | h; have := (row_ltN HP.out h.1).1; have := HZW.out.2.2; omega; have := HU4.out; have := HZW.out.2.1; have := HUU.out; omega)).trans HU5.out.2⟩; clear hq5 hq6))
            all_goals
              go_wp2_with fail
              go_roundw
              case rel => exact ⟨i + 1, by omega, by go_num, Lib.hid ⟨by rw [HRES.out, HPQ.out]; push_cast; rw [Int.add_assoc], HQ.out.2.1.back HQ6.out.1 HQ6.out.2 (by rcases HQ.out.2.2.2 with h | h; exact .inl h; right; intro g hg e; have := (row_ltN HP.out hg).1; have := HU4.out.2.1; have := HUU.out; have := HU4.out; omega), grown_path (grown_more HGW.out.1 HQ.out.2.2.1) HQ6.out.2 (by rcases HQ.out.2.2.2 with h | h; exact .inl h.1; right; rw [h]; exact HPN.out.2.2), (HU6.out.2.trans HZW.out.1).trans HB1.out.symm⟩⟩
              case measure => simp [intOf]; omega
          | some py =>
            have HRES : Hid (RES = some (P :: py)) := Lib.hid (by rw [HR2.out.1, HD.out])
            have CF2 : Hid (∀ V va n c p2, w.heap.size ≤ V.heap.size → (∀ b, S b → V.heap[b]? = wr.heap[b]?) → PI V B va n c p2 → n = pn + 1 → Calls Try.prog 35 #[.agg #[.int .i64 yo, .string ys, .slice eo2 em ek2, .slice to2 tm tk2], .slice va n c] V fun e w' => (∃ qa qn qc, e = .returned (.tuple #[.slice qa qn qc, .bool true]) ∧ PI w' B qa qn qc (p2 ++ py)) ∧ V.grownBy w' (Value.slice va n c).ownBlock) := Lib.hid fun V va n c p2 h1 h2 h3 h4 => (CF.out V va n c p2 h1 h2 h3 h4).mono fun e w' ⟨h, hg⟩ => by
              rcases h with ⟨q, qa, qn, qc, hq, he, hpi⟩ | ⟨hq, _⟩
              · cases hq
                exact ⟨⟨qa, qn, qc, he, hpi⟩, hg⟩
              · cases hq
            clear CF
            go_region_held3 (fun V => (V.cell? ⟨u, 0, none⟩ = some (.int .i64 yo) ∧ V.cell? ⟨u, 1, none⟩ = some (.string ys) ∧ V.cell? ⟨u, 2, none⟩ = some (.slice eo2 em ek2) ∧ V.cell? ⟨u, 3, none⟩ = some (.slice to2 tm tk2)) ∧ V.cell? ⟨z, 2, none⟩ = some (.slice eo j ek))
              (first | exact HBX.out _ HU6.out | exact HBX.out _ HU5.out | exact HBX.out _ ⟨Below.heap_alloc _ _ _ HU4.out.1, Below.heap_alloc _ _ _ (lt_of_heap HZW.out.1)⟩ | exact HBX.out _ ⟨rfl, rfl⟩)
              (first
                | (refine step_appP rfl _ _ rfl B pa pn pc path P rfl HPA.out W3.heap.size rfl (cell_blk (show (W3.alloc (.cells #[.int .i64 P] 3)).drew.heap[W3.heap.size]? = _ from heap_alloc_new W3 _) 0) HPN.out.1 HPN.out.2.1 ?_; intro g' cap' w5 hq1 hq2 hq3 hq4; have HQ := Lib.hid (And.intro hq1 (And.intro hq2 (And.intro hq3 hq4))); have HU5 : Hid (w5.heap[u]? = W3.heap[u]? ∧ w5.heap[z]? = W3.heap[z]?) := Lib.hid ⟨(hq3.block u (by have := HU4.out; omega) (by intro e; have := (row_ltN HP.out e.symm).1; have := HU4.out.2.1; omega)).trans (Below.heap_alloc _ _ _ HU4.out.1), (hq3.block z (by have := HU4.out; have := HZW.out.2.1; have := HUU.out; omega) (by intro e; have := (row_ltN HP.out e.symm).1; have := HZW.out.2.2; omega)).trans (Below.heap_alloc _ _ _ (lt_of_heap HZW.out.1))⟩; have HT5 : Hid (∀ b, S b → w5.heap[b]? = wr.heap[b]?) := Lib.hid (fun b hb => (hq3.block b (by have := (HTS.out b hb).2; have := HPN.out.2.2; omega) (by intro e; have := (row_ltN HP.out e.symm).2; have := hS b hb; omega)).trans (HTR.out b hb)); clear hq1 hq2 hq3 hq4)
                | (go_at_call 35; (with_reducible refine (CF2.out w5 (some ⟨g', 0, none⟩) (pn + 1) cap' (path ++ [P]) (Nat.le_trans HPN.out.2.2 HQ.out.2.2.1.size) HT5.out HQ.out.1 rfl).mono ?_); rintro e w6 ⟨⟨qa, qn, qc, rfl, hq5⟩, hq6⟩; have HQ6 := Lib.hid (And.intro hq5 hq6); have HU6 : Hid (w6.heap[u]? = W3.heap[u]? ∧ w6.heap[z]? = W3.heap[z]?) := Lib.hid ⟨(hq6.block u (by have := HU4.out; have := HQ.out.2.2.1.size; omega) (by intro e; have e' : u = g' := Option.some.inj e; have := HQ.out.2.2.2; rcases this with h | h; have := (row_ltN HP.out h.1).1; have := HU4.out.2.1; omega; have := HU4.out; omega)).trans HU5.out.1, (hq6.block z (by have := HU4.out; have := HQ.out.2.2.1.size; have := HZW.out.2.1; have := HUU.out; omega) (by intro e; have e' : z = g' := Option.some.inj e; have := HQ.out.2.2.2; rcases this with h | h; have := (row_ltN HP.out h.1).1; have := HZW.out.2.2; omega; have := HU4.out; have := HZW.out.2.1; have := HUU.out; omega)).trans HU5.out.2⟩; clear hq5 hq6))
            all_goals
              have hfin : FtP B pa pn pc path RES w (.returned (.tuple #[.slice qa qn qc, .bool true])) w6 := ⟨.inl ⟨_, qa, qn, qc, HRES.out, rfl, by have := HQ6.out.1; rwa [List.append_assoc] at this⟩, grown_path (grown_more HGW.out.1 HQ.out.2.2.1) HQ6.out.2 (by rcases HQ.out.2.2.2 with h | h; exact .inl h.1; right; rw [h]; exact HPN.out.2.2)⟩
              go_wp2_with fail
              go_ret2
              exact hfin
        · obtain rfl : i = m2 := by omega
          have hfin : FtP B pa pn pc path RES w (.returned (.tuple #[.slice none 0 0, .bool false])) wr := ⟨.inr ⟨by rw [HR2.out.1, List.drop_eq_nil_of_le (by rw [HM2.out]; exact Nat.le_refl _)]; rfl, rfl, HR2.out.2.1⟩, HR2.out.2.2.1⟩
          go_wp2_with fail
          go_ret2
          exact hfin
end Go.Proofs.Ythhimllddgfddaa
namespace Go.Proofs.Ythhimllddgfddaa
open Go.RowKit Go.PlainAid Go.Sort
set_option linter.unusedVariables false
set_option linter.unusedSimpArgs false
/-- Whether a term fits: 0; 12 where it doesn't; 1 where it isn't right. -/
def Tr.fts (x : Tr) : Int := if x.rgt = true then (match x.flt with | none => 0 | some _ => 12) else 1
theorem trgt_parts {x : Tr} (h : x.rgt = true) : x.cnt ≤ 200 ∧ x.dep ≤ 16 ∧ x.blt = true := by
  unfold Tr.rgt at h
  simp only [Bool.and_eq_true, decide_eq_true_eq] at h
  exact ⟨h.1.1, h.1.2, h.2⟩
set_option maxRecDepth 100000 in
set_option maxHeartbeats 4000000 in
theorem fitsOf_any {S : Nat → Prop} (x : Tr) (eo : Option Addr) (ek : Nat) (tb : Option Addr) (tk : Nat) (w : World) (hS : ∀ b, S b → b < w.heap.size) (hx : TrOk S w x eo ek tb tk) (hf : x.fit) (hn : x.cnt < 1000) :
    Calls Try.prog 20 #[trV x eo ek tb tk] w fun e w' => e = .returned (.int .i64 x.fts) ∧ Below w.heap.size w w' := by
  have CR : Hid (∀ W, Below w.heap.size w W → Calls Try.prog 14 #[trV x eo ek tb tk] W fun e w' => e = .returned (.bool x.rgt) ∧ Below W.heap.size W w') := Lib.hid fun W hW => right_any x eo ek tb tk W (fun b hb => by have := hS b hb; have := hW.size; omega) (hx.next hS hW) hf hn
  have CF : Hid (x.rgt = true → ∀ W, Below w.heap.size w W → Calls Try.prog 35 #[trV x eo ek tb tk, .slice none 0 0] W (FtP w.heap.size none 0 0 [] x.flt W)) := Lib.hid fun hr W hW => fault_any (S := S) (B := w.heap.size) hS x eo ek tb tk W none 0 0 [] hW.size (trgt_parts hr).2.2 (hx.next hS hW) hn (World.ownsRow_nil _ _ _ 1) (by have := (trgt_parts hr).2.1; omega)
  have HFT : Hid (x.fts = if x.rgt = true then (match x.flt with | none => 0 | some _ => 12) else 1) := Lib.hid rfl
  obtain ⟨rg, hrg⟩ : ∃ v, v = x.rgt := ⟨_, rfl⟩
  obtain ⟨fl, hfl⟩ : ∃ v, v = x.flt := ⟨_, rfl⟩
  obtain ⟨ft, hft⟩ : ∃ v, v = x.fts := ⟨_, rfl⟩
  rw [← hrg] at CR CF HFT
  rw [← hfl] at CF HFT
  rw [← hft] at HFT ⊢
  obtain ⟨m, hm⟩ : ∃ m, m = x.exprs.length := ⟨_, rfl⟩
  obtain ⟨m2, hm2⟩ : ∃ m, m = x.terms.length := ⟨_, rfl⟩
  obtain ⟨xo, hxo⟩ : ∃ v, v = x.op := ⟨_, rfl⟩
  obtain ⟨xs, hxs⟩ : ∃ v, v = x.nm := ⟨_, rfl⟩
  rw [show trV x eo ek tb tk = .agg #[.int .i64 xo, .string xs, .slice eo m ek, .slice tb m2 tk] from by rw [hm, hm2, hxo, hxs]] at CR CF ⊢
  have GA := Lib.hid (term_box (.int .i64 xo) (.string xs) (.slice eo m ek) (.slice tb m2 tk) w)
  clear hx hf hn hS hrg hfl hft hm hm2 hxo hxs
  go_enter Try.func20, Try.ntmps20
  go_upto_region 1 with fail
  obtain ⟨z, hz⟩ : ∃ z, z = w.heap.size := ⟨_, rfl⟩
  obtain ⟨W, hW⟩ : ∃ X, w.alloc (.cells #[.int .i64 xo, .string xs, .slice eo m ek, .slice tb m2 tk] 32) = X := ⟨_, rfl⟩
  obtain ⟨g1, b1, _⟩ := GA.out W hW
  rw [hW, ← hz]
  rw [← hz] at b1
  have HG := Lib.hid g1
  have HB1 := Lib.hid b1
  obtain ⟨c0, c1, c2, c3⟩ := quad b1
  clear hW g1 b1 GA hz
  cases rg with
  | false =>
    have HF1 : Hid (ft = 1) := Lib.hid (by rw [HFT.out]; rfl)
    go_wp2_with (go_at_call 14; (with_reducible refine (CR.out _ HG.out).mono ?_); rintro e w2 ⟨rfl, hb⟩; have HB2 := Lib.hid hb; clear hb c0 c1 c2 c3)
    go_ret
    exact ⟨by rw [HF1.out]; rfl, below_mono HG.out HB2.out (Nat.le_refl _)⟩
  | true =>
    have CF2 := Lib.hid (CF.out rfl)
    clear CF
    cases fl with
    | none =>
      have HF1 : Hid (ft = 0) := Lib.hid (by rw [HFT.out]; rfl)
      have CF3 : Hid (∀ W, Below w.heap.size w W → Calls Try.prog 35 #[.agg #[.int .i64 xo, .string xs, .slice eo m ek, .slice tb m2 tk], .slice none 0 0] W fun e w' => e = .returned (.tuple #[.slice none 0 0, .bool false]) ∧ Below W.heap.size W w') := Lib.hid fun W hW => (CF2.out W hW).mono fun e w' ⟨h, hg⟩ => by
        rcases h with ⟨q, _, _, _, hq, _⟩ | ⟨_, he, _⟩
        · cases hq
        · exact ⟨he, hg.os, hg.tape, hg.output, hg.size, fun k hk => hg.block k hk (by intro e; cases e)⟩
      go_upto_region 3 with (go_at_call 14; (with_reducible refine (CR.out _ HG.out).mono ?_); rintro e w2 ⟨rfl, hb⟩; have HB2 := Lib.hid hb; clear hb c0 c1 c2 c3)
      obtain ⟨c0, c1, c2, c3⟩ := quad ((HB2.out.block z (lt_of_heap HB1.out)).trans HB1.out)
      go_wp2_with (go_at_call 35; (with_reducible refine (CF3.out _ (below_mono HG.out HB2.out (Nat.le_refl _))).mono ?_); rintro e w3 ⟨rfl, hb⟩; have HB3 := Lib.hid hb; clear hb c0 c1 c2 c3)
      go_ret
      exact ⟨by rw [HF1.out]; rfl, below_mono (below_mono HG.out HB2.out (Nat.le_refl _)) HB3.out (Nat.le_refl _)⟩
    | some p =>
      have HF1 : Hid (ft = 12) := Lib.hid (by rw [HFT.out]; rfl)
      have CF3 : Hid (∀ W, Below w.heap.size w W → Calls Try.prog 35 #[.agg #[.int .i64 xo, .string xs, .slice eo m ek, .slice tb m2 tk], .slice none 0 0] W fun e w' => (∃ qa qn qc, e = .returned (.tuple #[.slice qa qn qc, .bool true])) ∧ Below W.heap.size W w') := Lib.hid fun W hW => (CF2.out W hW).mono fun e w' ⟨h, hg⟩ => by
        rcases h with ⟨q, qa, qn, qc, hq, he, _⟩ | ⟨hq, _⟩
        · exact ⟨⟨qa, qn, qc, he⟩, hg.os, hg.tape, hg.output, hg.size, fun k hk => hg.block k hk (by intro e; cases e)⟩
        · cases hq
      go_upto_region 3 with (go_at_call 14; (with_reducible refine (CR.out _ HG.out).mono ?_); rintro e w2 ⟨rfl, hb⟩; have HB2 := Lib.hid hb; clear hb c0 c1 c2 c3)
      obtain ⟨c0, c1, c2, c3⟩ := quad ((HB2.out.block z (lt_of_heap HB1.out)).trans HB1.out)
      go_wp2_with (go_at_call 35; (with_reducible refine (CF3.out _ (below_mono HG.out HB2.out (Nat.le_refl _))).mono ?_); rintro e w3 ⟨⟨qa, qn, qc, rfl⟩, hb⟩; have HB3 := Lib.hid hb; clear hb c0 c1 c2 c3)
      go_ret
      exact ⟨by rw [HF1.out]; rfl, below_mono (below_mono HG.out HB2.out (Nat.le_refl _)) HB3.out (Nat.le_refl _)⟩
end Go.Proofs.Ythhimllddgfddaa
namespace Go.Proofs.Ythhimllddgfddaa
open Go.RowKit Go.PlainAid Go.Sort
set_option linter.unusedVariables false
set_option linter.unusedSimpArgs false
/-- A slice of ints, read only. -/
structure StI (ao : Option Addr) (n c : Nat) (l : List Int) (w : World) : Prop where
  len : l.length = n
  cap : n ≤ c
  att : l ≠ [] → ∃ a, ao = some a ∧ a.block < w.heap.size ∧ ∀ (i : Nat) v, l[i]? = some v → w.cell? (a.add i) = some (.int .i64 v)
theorem StI.next {ao : Option Addr} {n c : Nat} {l : List Int} {w w' : World} (h : StI ao n c l w) (k : Below w.heap.size w w') : StI ao n c l w' :=
  ⟨h.len, h.cap, fun hn => by
    obtain ⟨a, h1, h2, h3⟩ := h.att hn
    exact ⟨a, h1, Nat.lt_of_lt_of_le h2 k.size, fun i s hi => (k.cell (p := a.add i) (by unfold Addr.add; split <;> exact h2)).trans (h3 i s hi)⟩⟩
end Go.Proofs.Ythhimllddgfddaa
namespace Go.Proofs.Ythhimllddgfddaa
open Go.RowKit Go.PlainAid Go.Sort
set_option linter.unusedVariables false
set_option linter.unusedSimpArgs false
def f2 (a b : Option (List Int)) : Option (List Int) := match a with | some p => some p | none => b
end Go.Proofs.Ythhimllddgfddaa
namespace Go.Proofs.Ythhimllddgfddaa
open Go.RowKit Go.PlainAid Go.Sort
set_option linter.unusedVariables false
set_option linter.unusedSimpArgs false
theorem blt_one {x : Tr} (h : x.blt = true) : x.exprs.length ≤ 1 := by
  rw [x.blt_eq] at h
  simp only [Bool.and_eq_true] at h
  have := h.1.1
  unfold okT at this
  simp only [Bool.and_eq_true, decide_eq_true_eq] at this
  have h1 := this.1.1
  have h2 : kidE x.op ≤ 1 := by unfold kidE; repeat' split <;> omega
  omega
set_option maxRecDepth 100000 in
set_option maxHeartbeats 16000000 in
theorem rfits_any {S : Nat → Prop} {B : Nat} (hS : ∀ b, S b → b < B) (x : Tr) : ∀ (eo : Option Addr) (ek : Nat) (tb : Option Addr) (tk : Nat) (w : World), B ≤ w.heap.size → x.blt = true → TrOk S w x eo ek tb tk → x.cnt < 1000 →
    Calls Try.prog 18 #[trV x eo ek tb tk] w fun e w' => e = .returned (.bool x.flt.isNone) ∧ Below w.heap.size w w' := by
  induction x using Tr.ind with
  | h x IH =>
  intro eo ek tb tk w hB hb ht hcn
  have hone := blt_one hb
  have hbe := x.blt_eq
  rw [hb, tblts_all] at hbe
  have hbe2 := hbe.symm
  simp only [Bool.and_eq_true, List.all_eq_true] at hbe2
  have hfl := x.flt_eq
  have hce := x.cnt_eq
  obtain ⟨l, hl⟩ : ∃ l, l = x.exprs := ⟨_, rfl⟩
  obtain ⟨l2, hl2⟩ : ∃ l, l = x.terms := ⟨_, rfl⟩
  have hec := ht.ec
  have htc := ht.tc
  have hex := ht.ex
  have hte := ht.te
  rw [← hl] at hbe2 hfl hce hec hex hone
  rw [← hl2] at IH hbe2 hfl hce htc hte
  have HX : Hid (∀ W, Below w.heap.size w W → ExL S W l eo) := Lib.hid fun W hW => hex.stay (fun _ h => h) fun b hb => hW.block b (by have := hS b hb; omega)
  have HY : Hid (∀ W, Below w.heap.size w W → TrL S W l2 tb) := Lib.hid fun W hW => hte.stay (fun _ h => h) fun b hb => hW.block b (by have := hS b hb; omega)
  have CK : Hid (∀ y ∈ l, ∀ (co : Option Addr) (ck : Nat), y.args.length ≤ ck → ∀ W, Below w.heap.size w W → ExL S W y.args co → Calls Try.prog 32 #[exV y co ck] W fun e w' => e = .returned (.int .i64 (y.knd : Nat)) ∧ Below W.heap.size W w') := Lib.hid fun y hy co ck h1 W hW h2 => rkind_any (S := S) (B := B) hS y co ck W (by have := hW.size; omega) (hbe2.1.2 y hy) h1 h2
  have HI := Lib.hid IH
  have HBL := Lib.hid (And.intro hbe2.1.2 hbe2.2)
  have HA := Lib.hid (And.intro hB (And.intro hce hcn))
  obtain ⟨m, hm⟩ : ∃ m, m = l.length := ⟨_, rfl⟩
  obtain ⟨m2, hm2⟩ : ∃ m, m = l2.length := ⟨_, rfl⟩
  have HM := Lib.hid hm
  have HM2 := Lib.hid hm2
  have hm3 : m2 < 1000 := by
    have := len_tcnts l2
    omega
  obtain ⟨xo, hxo⟩ : ∃ v, v = x.op := ⟨_, rfl⟩
  obtain ⟨xs, hxs⟩ : ∃ v, v = x.nm := ⟨_, rfl⟩
  rw [show trV x eo ek tb tk = .agg #[.int .i64 xo, .string xs, .slice eo m ek, .slice tb m2 tk] from by rw [hm, hm2, hl, hl2, hxo, hxs]]
  rw [← hxo, ← hm] at hfl
  rw [← hm] at hone
  obtain ⟨RES, hRES⟩ : ∃ v, v = x.flt := ⟨_, rfl⟩
  rw [← hRES] at hfl ⊢
  have HR := Lib.hid hfl
  obtain ⟨nd, hnd⟩ : ∃ v, v = ndK xo := ⟨_, rfl⟩
  rw [← hnd] at HR
  have HND := Lib.hid hnd
  have GA := Lib.hid (term_box (.int .i64 xo) (.string xs) (.slice eo m ek) (.slice tb m2 tk) w)
  clear IH hB hb ht hcn hbe hbe2 hec htc hex hte hl hl2 hm hm2 hxo hxs hRES hce hfl hnd
  go_enter Try.func18, Try.ntmps18
  go_upto_region 1 with fail
  obtain ⟨z, hz⟩ : ∃ z, z = w.heap.size := ⟨_, rfl⟩
  obtain ⟨W, hW⟩ : ∃ X, w.alloc (.cells #[.int .i64 xo, .string xs, .slice eo m ek, .slice tb m2 tk] 32) = X := ⟨_, rfl⟩
  obtain ⟨g1, b1, _⟩ := GA.out W hW
  rw [hW, ← hz]
  rw [← hz] at b1
  have HG := Lib.hid g1
  have HB1 := Lib.hid b1
  obtain ⟨c0, c1, c2, c3⟩ := quad b1
  clear hW g1 b1 GA hz
  go_upto_if 8 with fail
  go_cut [] (fun wx => Hid (RES = Tr.flt.flts m l2 ∧ Below W.heap.size W wx))
  case first =>
    have h01 : m = 0 ∨ m = 1 := by omega
    rcases h01 with rfl | rfl
    · go_wp2_with fail
      go_meet
      exact Lib.hid ⟨by rw [HR.out, List.length_eq_zero_iff.1 HM.out.symm]; rfl, Below.refl _ _⟩
    · obtain ⟨y, hy⟩ : ∃ y, l[0]? = some y := ⟨_, List.getElem?_eq_getElem (by rw [← HM.out]; exact Nat.zero_lt_one)⟩
      have hly : l = [y] := by
        obtain ⟨q, hq⟩ := List.length_eq_one_iff.1 HM.out.symm
        rw [hq] at hy ⊢
        simp at hy
        rw [hy]
      have hmem := List.mem_of_getElem? hy
      obtain ⟨a, co, ck, rfl, hsa, hck, ⟨y0, y1, y2, y3⟩, hyl⟩ := (HX.out W HG.out).get hy
      rw [Nat.zero_mul, addr_zero] at y0 y1 y2 y3
      have CKy : Hid (∀ V, Below W.heap.size W V → Calls Try.prog 32 #[exV y co ck] V fun e w' => e = .returned (.int .i64 (y.knd : Nat)) ∧ Below V.heap.size V w') := Lib.hid fun V hV => CK.out y hmem co ck hck V (below_mono HG.out hV (Nat.le_refl _)) (hyl.stay (fun _ h => h) fun b hb => hV.block b (by have := hS b hb; have := HA.out.1; have := HG.out.size; omega))
      have HFX : Hid (fltX nd 0 l = if (y.knd : Int) = nd then none else some ((0 : Int) :: (if y.knd = 0 then y.dst else []))) := Lib.hid (by rw [hly]; rfl)
      have hk2 := knd_le y
      obtain ⟨kn, hkn⟩ : ∃ v, v = y.knd := ⟨_, rfl⟩
      rw [← hkn] at CKy HFX hk2
      obtain ⟨cm, hcm⟩ : ∃ c, c = y.args.length := ⟨_, rfl⟩
      obtain ⟨yo, hyo⟩ : ∃ v, v = y.op := ⟨_, rfl⟩
      obtain ⟨yn, hyn⟩ : ∃ v, v = y.n := ⟨_, rfl⟩
      obtain ⟨ys, hys⟩ : ∃ v, v = y.nm := ⟨_, rfl⟩
      rw [show exV y co ck = .agg #[.int .i64 yo, .int .i64 yn, .string ys, .slice co cm ck] from by rw [hcm, hyo, hyn, hys]] at CKy
      rw [← hcm] at y3
      rw [← hyo] at y0
      rw [← hyn] at y1
      rw [← hys] at y2
      clear hcm hyo hyn hys hsa hck hyl hy hmem hkn hly
      have h012 : kn = 0 ∨ kn = 1 ∨ kn = 2 := by omega
      clear hk2
      rcases h012 with rfl | rfl | rfl
      · have CK0 : Hid (∀ V, Below W.heap.size W V → Calls Try.prog 32 #[.agg #[.int .i64 yo, .int .i64 yn, .string ys, .slice co cm ck]] V fun e w' => e = .returned (.int .i64 0) ∧ Below V.heap.size V w') := CKy
        clear CKy
        by_cases h6 : xo = 6
        · skip
          have HN0 : Hid (¬ (((0 : Nat) : Int) = nd)) := Lib.hid (by rw [HND.out]; unfold ndK; rw [if_pos h6]; omega)
          have HRES : Hid (RES.isNone = false) := Lib.hid (by rw [HR.out, HFX.out, if_neg HN0.out]; rfl)
          have h6b : (xo == 6) = true := by simp [h6]
          have h6n : (xo != 6) = false := by simp [h6]
          clear h6 HFX
          go_wp2_with (go_at_call 32; (with_reducible refine (CK0.out _ (Below.refl _ _)).mono ?_); rintro e w4 ⟨rfl, hb⟩; have HB4 := Lib.hid hb; clear hb c0 c1 c2 c3; obtain ⟨c0, c1, c2, c3⟩ := quad ((HB4.out.block z (lt_of_heap HB1.out)).trans HB1.out))
          go_ret
          exact ⟨by rw [HRES.out]; rfl, below_mono HG.out HB4.out (Nat.le_refl _)⟩
        · skip
          have HN0 : Hid (¬ (((0 : Nat) : Int) = nd)) := Lib.hid (by rw [HND.out]; unfold ndK; rw [if_neg h6]; omega)
          have HRES : Hid (RES.isNone = false) := Lib.hid (by rw [HR.out, HFX.out, if_neg HN0.out]; rfl)
          have h6b : (xo == 6) = false := by simp [h6]
          have h6n : (xo != 6) = true := by simp [h6]
          clear h6 HFX
          go_wp2_with (go_at_call 32; (with_reducible refine (CK0.out _ (Below.refl _ _)).mono ?_); rintro e w4 ⟨rfl, hb⟩; have HB4 := Lib.hid hb; clear hb c0 c1 c2 c3; obtain ⟨c0, c1, c2, c3⟩ := quad ((HB4.out.block z (lt_of_heap HB1.out)).trans HB1.out))
          go_ret
          exact ⟨by rw [HRES.out]; rfl, below_mono HG.out HB4.out (Nat.le_refl _)⟩
      · have CK0 : Hid (∀ V, Below W.heap.size W V → Calls Try.prog 32 #[.agg #[.int .i64 yo, .int .i64 yn, .string ys, .slice co cm ck]] V fun e w' => e = .returned (.int .i64 1) ∧ Below V.heap.size V w') := CKy
        clear CKy
        by_cases h6 : xo = 6
        · skip
          have HN0 : Hid (((1 : Nat) : Int) = nd) := Lib.hid (by rw [HND.out]; unfold ndK; rw [if_pos h6]; rfl)
          have HRES : Hid (RES = Tr.flt.flts (1 : Nat) l2) := Lib.hid (by rw [HR.out, HFX.out, if_pos HN0.out])
          have h6b : (xo == 6) = true := by simp [h6]
          have h6n : (xo != 6) = false := by simp [h6]
          clear h6 HFX
          go_wp2_with (go_at_call 32; (with_reducible refine (CK0.out _ (Below.refl _ _)).mono ?_); rintro e w4 ⟨rfl, hb⟩; have HB4 := Lib.hid hb; clear hb c0 c1 c2 c3; obtain ⟨c0, c1, c2, c3⟩ := quad ((HB4.out.block z (lt_of_heap HB1.out)).trans HB1.out))
          go_meet
          exact Lib.hid ⟨HRES.out, HB4.out⟩
        · skip
          have HN0 : Hid (¬ (((1 : Nat) : Int) = nd)) := Lib.hid (by rw [HND.out]; unfold ndK; rw [if_neg h6]; omega)
          have HRES : Hid (RES.isNone = false) := Lib.hid (by rw [HR.out, HFX.out, if_neg HN0.out]; rfl)
          have h6b : (xo == 6) = false := by simp [h6]
          have h6n : (xo != 6) = true := by simp [h6]
          clear h6 HFX
          go_wp2_with (go_at_call 32; (with_reducible refine (CK0.out _ (Below.refl _ _)).mono ?_); rintro e w4 ⟨rfl, hb⟩; have HB4 := Lib.hid hb; clear hb c0 c1 c2 c3; obtain ⟨c0, c1, c2, c3⟩ := quad ((HB4.out.block z (lt_of_heap HB1.out)).trans HB1.out))
          go_ret
          exact ⟨by rw [HRES.out]; rfl, below_mono HG.out HB4.out (Nat.le_refl _)⟩
      · have CK0 : Hid (∀ V, Below W.heap.size W V → Calls Try.prog 32 #[.agg #[.int .i64 yo, .int .i64 yn, .string ys, .slice co cm ck]] V fun e w' => e = .returned (.int .i64 2) ∧ Below V.heap.size V w') := CKy
        clear CKy
        by_cases h6 : xo = 6
        · skip
          have HN0 : Hid (¬ (((2 : Nat) : Int) = nd)) := Lib.hid (by rw [HND.out]; unfold ndK; rw [if_pos h6]; omega)
          have HRES : Hid (RES.isNone = false) := Lib.hid (by rw [HR.out, HFX.out, if_neg HN0.out]; rfl)
          have h6b : (xo == 6) = true := by simp [h6]
          have h6n : (xo != 6) = false := by simp [h6]
          clear h6 HFX
          go_wp2_with (go_at_call 32; (with_reducible refine (CK0.out _ (Below.refl _ _)).mono ?_); rintro e w4 ⟨rfl, hb⟩; have HB4 := Lib.hid hb; clear hb c0 c1 c2 c3; obtain ⟨c0, c1, c2, c3⟩ := quad ((HB4.out.block z (lt_of_heap HB1.out)).trans HB1.out))
          go_ret
          exact ⟨by rw [HRES.out]; rfl, below_mono HG.out HB4.out (Nat.le_refl _)⟩
        · skip
          have HN0 : Hid (((2 : Nat) : Int) = nd) := Lib.hid (by rw [HND.out]; unfold ndK; rw [if_neg h6]; rfl)
          have HRES : Hid (RES = Tr.flt.flts (1 : Nat) l2) := Lib.hid (by rw [HR.out, HFX.out, if_pos HN0.out])
          have h6b : (xo == 6) = false := by simp [h6]
          have h6n : (xo != 6) = true := by simp [h6]
          clear h6 HFX
          go_wp2_with (go_at_call 32; (with_reducible refine (CK0.out _ (Below.refl _ _)).mono ?_); rintro e w4 ⟨rfl, hb⟩; have HB4 := Lib.hid hb; clear hb c0 c1 c2 c3; obtain ⟨c0, c1, c2, c3⟩ := quad ((HB4.out.block z (lt_of_heap HB1.out)).trans HB1.out))
          go_meet
          exact Lib.hid ⟨HRES.out, HB4.out⟩
  case rest =>
    have HRW := hcut
    clear c0 c1 c2 c3
    go_upto_region 6 with fail
    go_loopw [4] (fun v wr => ∃ i : Nat, i ≤ m2 ∧ v = .int .i64 i ∧ Hid (RES = Tr.flt.flts ((m : Int) + i) (l2.drop i) ∧ Below W.heap.size W wr)) (fun v _ => m2 - (intOf v).toNat)
    case atStart => exact ⟨0, by omega, rfl, Lib.hid ⟨by rw [HRW.out.1]; simp, HRW.out.2⟩⟩
    case round =>
      obtain ⟨i, hi, rfl, HR2⟩ := hrel
      have HWW2 := Lib.hid (below_mono HG.out HR2.out.2 (Nat.le_refl _))
      obtain ⟨c0, c1, c2, c3⟩ := quad ((HR2.out.2.block z (lt_of_heap HB1.out)).trans HB1.out)
      by_cases hlt2 : i < m2
      · obtain ⟨y, hy⟩ : ∃ y, l2[i]? = some y := ⟨_, List.getElem?_eq_getElem (by rw [← HM2.out]; exact hlt2)⟩
        have hmem := List.mem_of_getElem? hy
        have hci := tcnts_in hy
        obtain ⟨a, eo2, ek2, to2, tk2, rfl, hsa, hek, htk, ⟨y0, y1, y2, y3⟩, hye, hyt⟩ := (HY.out wr HWW2.out).get hy
        have HD : Hid (Tr.flt.flts ((m : Int) + i) (l2.drop i) = match y.flt with | some p => some (((m : Int) + i) :: p) | none => Tr.flt.flts ((m : Int) + i + 1) (l2.drop (i + 1))) := Lib.hid (flts_drop hy _)
        have CF : Hid (Calls Try.prog 18 #[trV y eo2 ek2 to2 tk2] wr fun e w' => e = .returned (.bool y.flt.isNone) ∧ Below wr.heap.size wr w') := Lib.hid (HI.out y hmem eo2 ek2 to2 tk2 wr (by have := HA.out.1; have := HWW2.out.size; omega) (HBL.out.2 y hmem) ⟨hek, htk, hye, hyt⟩ (by have h4 := HA.out.2.1; have h5 := HA.out.2.2; omega))
        obtain ⟨fy, hfy⟩ : ∃ v, v = y.flt := ⟨_, rfl⟩
        rw [← hfy] at HD CF
        obtain ⟨em, hem⟩ : ∃ c, c = y.exprs.length := ⟨_, rfl⟩
        obtain ⟨tm, htm⟩ : ∃ c, c = y.terms.length := ⟨_, rfl⟩
        obtain ⟨yo, hyo⟩ : ∃ v, v = y.op := ⟨_, rfl⟩
        obtain ⟨ys, hys⟩ : ∃ v, v = y.nm := ⟨_, rfl⟩
        rw [show trV y eo2 ek2 to2 tk2 = .agg #[.int .i64 yo, .string ys, .slice eo2 em ek2, .slice to2 tm tk2] from by rw [hem, htm, hyo, hys]] at CF
        rw [← hem] at y2
        rw [← htm] at y3
        rw [← hyo] at y0
        rw [← hys] at y1
        have j0 : (0 : Int) ≤ (i : Int) := by omega
        have j1 : (i : Int) < (m2 : Int) := by omega
        clear hfy hem htm hyo hys hsa hek htk hye hyt hy hmem hci
        cases fy with
        | none =>
          have CF2 : Hid (Calls Try.prog 18 #[.agg #[.int .i64 yo, .string ys, .slice eo2 em ek2, .slice to2 tm tk2]] wr fun e w' => e = .returned (.bool true) ∧ Below wr.heap.size wr w') := CF
          have HRES : Hid (RES = Tr.flt.flts ((m : Int) + (i : Int) + 1) (l2.drop (i + 1))) := Lib.hid (by rw [HR2.out.1, HD.out])
          clear CF HD
          go_wp2_with (go_at_call 18; (with_reducible refine CF2.out.mono ?_); rintro e w6 ⟨rfl, hb⟩; have HB6 := Lib.hid hb; clear hb)
          go_roundw
          case rel => exact ⟨i + 1, by omega, by go_num, Lib.hid ⟨by rw [HRES.out]; push_cast; rw [Int.add_assoc], below_mono HR2.out.2 HB6.out (Nat.le_refl _)⟩⟩
          case measure => simp [intOf]; omega
        | some py =>
          have CF2 : Hid (Calls Try.prog 18 #[.agg #[.int .i64 yo, .string ys, .slice eo2 em ek2, .slice to2 tm tk2]] wr fun e w' => e = .returned (.bool false) ∧ Below wr.heap.size wr w') := CF
          have HRES : Hid (RES = some (((m : Int) + (i : Int)) :: py)) := Lib.hid (by rw [HR2.out.1, HD.out])
          clear CF HD
          go_wp2_with (go_at_call 18; (with_reducible refine CF2.out.mono ?_); rintro e w6 ⟨rfl, hb⟩; have HB6 := Lib.hid hb; clear hb)
          go_ret
          exact ⟨by rw [HRES.out]; rfl, below_mono HWW2.out HB6.out (Nat.le_refl _)⟩
      · obtain rfl : i = m2 := by omega
        have HRES : Hid (RES = none) := Lib.hid (by rw [HR2.out.1, List.drop_eq_nil_of_le (by rw [HM2.out]; exact Nat.le_refl _)]; rfl)
        go_wp2_with fail
        go_ret
        exact ⟨by rw [HRES.out]; rfl, HWW2.out⟩
end Go.Proofs.Ythhimllddgfddaa
namespace Go.Proofs.Ythhimllddgfddaa
open Go.RowKit Go.PlainAid
set_option linter.unusedVariables false
set_option linter.unusedSimpArgs false
/-- No node has more than a thousand within. -/
def Tr.thin : Tr → Prop
  | .mk _ _ e l => (e.length ≤ 400 ∧ l.length ≤ 400) ∧ (∀ y ∈ e, y.thin) ∧ thins l
where thins : List Tr → Prop
  | [] => True
  | x :: t => x.thin ∧ thins t
theorem Tr.thin_eq (x : Tr) : x.thin ↔ (x.exprs.length ≤ 400 ∧ x.terms.length ≤ 400) ∧ (∀ y ∈ x.exprs, y.thin) ∧ Tr.thin.thins x.terms := by cases x; exact Iff.rfl
theorem tthins_all (l : List Tr) : Tr.thin.thins l ↔ ∀ y ∈ l, y.thin := by
  induction l with
  | nil => simp [Tr.thin.thins]
  | cons x t ih => simp [Tr.thin.thins, ih]
set_option maxRecDepth 100000 in
set_option maxHeartbeats 8000000 in
theorem mterm_big {S : Nat → Prop} {B q : Nat} (hS : ∀ b, S b → b < B) (hq : B ≤ q) (x : Tr) : ∀ (n d dp : Nat) (xo' : Option Addr) (xk : Nat) (to' : Option Addr) (tk' : Nat) (w : World), MAt q n d w → x.exprs.length ≤ xk → x.terms.length ≤ tk' → ExL S w x.exprs xo' → TrL S w x.terms to' → x.thin → n < 1000 → 1000 ≤ n + x.cnt → dp + x.dep ≤ 1000 → d < 1000 →
    Calls Try.prog 19 #[.pointer (some ⟨q, 0, none⟩), trV x xo' xk to' tk', .int .i64 dp] w fun e w' => e = .returned (.bool false) ∧ w.grownBy w' (some q) := by
  induction x using Tr.ind with
  | h x IH =>
  intro n d dp xo' xk to' tk' w h hk hk2 hx hx2 ht hn0 hn hp hd
  have hc := x.cnt_eq
  have he := x.dep_eq
  have hql := lt_of_heap h
  have hte := (x.thin_eq).1 ht
  obtain ⟨z, hz⟩ : ∃ z, z = w.heap.size := ⟨_, rfl⟩
  have hzq : z ≠ q := by omega
  obtain ⟨l, hl⟩ : ∃ l, l = x.exprs := ⟨_, rfl⟩
  obtain ⟨l2, hl2⟩ : ∃ l, l = x.terms := ⟨_, rfl⟩
  rw [← hl] at hk hx hc he hte
  rw [← hl2] at IH hk2 hx2 hc he hte
  obtain ⟨m, hm⟩ : ∃ m, m = l.length := ⟨_, rfl⟩
  obtain ⟨m2, hm2⟩ : ∃ m, m = l2.length := ⟨_, rfl⟩
  obtain ⟨xo, hxo⟩ : ∃ v, v = x.op := ⟨_, rfl⟩
  obtain ⟨xs, hxs⟩ : ∃ v, v = x.nm := ⟨_, rfl⟩
  rw [show trV x xo' xk to' tk' = .agg #[.int .i64 xo, .string xs, .slice xo' m xk, .slice to' m2 tk'] from by rw [hm, hm2, hl, hl2, hxo, hxs]]
  by_cases h9 : n = 999
  · have C1 := Lib.hid (fun W hW hb => enter_box3 (q := q) (n := n) (d := d) (dp := dp) (z := z) (cs := #[.int .i64 xo, .string xs, .slice xo' m xk, .slice to' m2 tk']) (T := 32) h9 W hW hb hzq)
    have GA : Hid (∀ W, w.alloc (.cells #[.int .i64 xo, .string xs, .slice xo' m xk, .slice to' m2 tk'] 32) = W → MAt q n d W ∧ W.heap[z]? = some (.cells #[.int .i64 xo, .string xs, .slice xo' m xk, .slice to' m2 tk'] 32 (0, 0)) ∧ w.grownBy W (some q)) := Lib.hid (by
      rintro W rfl
      refine ⟨?_, ?_, alloc_only _ _ _⟩
      · exact (((Below.refl w.heap.size w).alloc (Nat.le_refl _) _).block q hql).trans h
      · rw [hz]; exact heap_alloc_new w _)
    have hs : IntKind.i64.wrap ((dp : Int) + 1) = ((dp + 1 : Nat) : Int) := (IntWalk.i64_in _ (by omega)).trans (by omega)
    obtain ⟨dp1, hdp1⟩ : ∃ v, v = dp + 1 := ⟨_, rfl⟩
    rw [← hdp1] at hs
    have HDP := Lib.hid hdp1
    have HZQ := Lib.hid hzq
    clear h hx hx2 IH hk hk2 hc he hn hp hd hl hl2 hm hm2 hql hzq hxo hxs hdp1 hte ht hn0
    go_enter Try.func19, Try.ntmps19
    go_upto_region 1 with fail
    obtain ⟨W, hW⟩ : ∃ X, w.alloc (.cells #[.int .i64 xo, .string xs, .slice xo' m xk, .slice to' m2 tk'] 32) = X := ⟨_, rfl⟩
    rw [hW, ← hz]
    obtain ⟨m1, b1, g1⟩ := GA.out W hW
    have HG := Lib.hid g1
    have HM1 := Lib.hid (And.intro m1 b1)
    have HZL := Lib.hid (lt_of_heap b1)
    clear hW m1 b1 g1 GA hz
    go_wp2_with (go_at_call 33; (with_reducible refine (C1.out _ HM1.out.1 HM1.out.2).mono ?_); rintro e w2 ⟨rfl, h2⟩; have HG2 := Lib.hid (only_trans HG.out h2); clear h2)
    go_ret
    exact ⟨rfl, HG2.out⟩
  have C1 := Lib.hid (fun W hW hb => enter_box2 (q := q) (n := n) (d := d) (dp := dp) (z := z) (cs := #[.int .i64 xo, .string xs, .slice xo' m xk, .slice to' m2 tk']) (T := 32) (by omega) (by omega) (by omega) W hW hb hzq)
  have GA : Hid (∀ W, w.alloc (.cells #[.int .i64 xo, .string xs, .slice xo' m xk, .slice to' m2 tk'] 32) = W → MAt q n d W ∧ W.heap[z]? = some (.cells #[.int .i64 xo, .string xs, .slice xo' m xk, .slice to' m2 tk'] 32 (0, 0)) ∧ w.grownBy W (some q)) := Lib.hid (by
    rintro W rfl
    refine ⟨?_, ?_, alloc_only _ _ _⟩
    · exact (((Below.refl w.heap.size w).alloc (Nat.le_refl _) _).block q hql).trans h
    · rw [hz]; exact heap_alloc_new w _)
  have HST : Hid (∀ W, w.grownBy W (some q) → ∀ b, S b → W.heap[b]? = w.heap[b]?) := Lib.hid fun W hW b hb => hW.block b (by have := hS b hb; omega) (by intro e; cases e; have := hS q hb; omega)
  have HX : Hid (∀ W, w.grownBy W (some q) → ExL S W l xo') := Lib.hid fun W hW => hx.stay (fun _ h => h) (HST.out W hW)
  have HY : Hid (∀ W, w.grownBy W (some q) → TrL S W l2 to') := Lib.hid fun W hW => hx2.stay (fun _ h => h) (HST.out W hW)
  have HI := Lib.hid IH
  have hs : IntKind.i64.wrap ((dp : Int) + 1) = ((dp + 1 : Nat) : Int) := (IntWalk.i64_in _ (by omega)).trans (by omega)
  obtain ⟨dp1, hdp1⟩ : ∃ v, v = dp + 1 := ⟨_, rfl⟩
  rw [← hdp1] at hs
  have HDP := Lib.hid hdp1
  have HA := Lib.hid (And.intro hc (And.intro he (And.intro hn (And.intro hp (And.intro hd hn0)))))
  have HTE := Lib.hid hte
  have hn9 : n + 1 < 1000 := by omega
  have HN9 := Lib.hid hn9
  have HM := Lib.hid hm
  have HM2 := Lib.hid hm2
  have HZQ := Lib.hid hzq
  have hm6 : m < 1000 ∧ m2 < 1000 := by omega
  obtain ⟨hm6, hm7⟩ := hm6
  clear h hx hx2 IH hk hk2 hc he hn hp hd hl hl2 hm hm2 hql hzq hxo hxs hdp1 hte ht hn0 h9 hn9
  go_enter Try.func19, Try.ntmps19
  go_upto_region 1 with fail
  obtain ⟨W, hW⟩ : ∃ X, w.alloc (.cells #[.int .i64 xo, .string xs, .slice xo' m xk, .slice to' m2 tk'] 32) = X := ⟨_, rfl⟩
  rw [hW, ← hz]
  obtain ⟨m1, b1, g1⟩ := GA.out W hW
  have HG := Lib.hid g1
  have HM1 := Lib.hid (And.intro m1 b1)
  have HZL := Lib.hid (lt_of_heap b1)
  clear hW m1 b1 g1 GA hz
  go_upto_region 3 with (go_at_call 33; (with_reducible refine (C1.out _ HM1.out.1 HM1.out.2).mono ?_); rintro e w2 ⟨rfl, h1, h2, h3⟩; have HMA := Lib.hid h1; have HG2 := Lib.hid (only_trans HG.out h2); have HB2 := Lib.hid h3; clear h1 h2 h3)
  have c2 : w2.cell? ⟨z, 2, none⟩ = some (.slice xo' m xk) := cell_blk HB2.out 2
  go_upto_region 4 with fail
  clear c2
  go_loopw [18] (fun v wr => ∃ j : Nat, j ≤ m ∧ v = .int .i64 j ∧ Hid (MAt q (n + 1 + Xp.cnt.cnts (l.take j)) (max d (dp + Xp.dep.deps (l.take j))) wr ∧ w.grownBy wr (some q) ∧ wr.heap[z]? = w2.heap[z]? ∧ n + 1 + Xp.cnt.cnts (l.take j) < 1000)) (fun v _ => m - (intOf v).toNat)
  case atStart => exact ⟨0, by omega, rfl, Lib.hid ⟨HMA.out, HG2.out, rfl, by have := HN9.out; simpa [Xp.cnt.cnts] using this⟩⟩
  case round =>
    obtain ⟨j, hj, rfl, HR⟩ := hrel
    by_cases hlt : j < m
    · obtain ⟨y, hy⟩ : ∃ y, l[j]? = some y := ⟨_, List.getElem?_eq_getElem (by rw [← HM.out]; exact hlt)⟩
      obtain ⟨a, co, ck, rfl, hsa, hck, ⟨y0, y1, y2, y3⟩, hyl⟩ := (HX.out wr HR.out.2.1).get hy
      have hcj := cnts_take hy
      have hdj := deps_take hy
      have hle := cnts_le l (j + 1)
      have hpos := y.dep_eq
      have hty := HTE.out.2.1 y (List.mem_of_getElem? hy)
      obtain ⟨sm, hsm⟩ : ∃ sm, sm = decide (n + 1 + Xp.cnt.cnts (l.take (j + 1)) < 1000) := ⟨_, rfl⟩
      have CY : Hid (∀ W, wr.grownBy W (some q) → MAt q (n + 1 + Xp.cnt.cnts (l.take j)) (max d (dp + Xp.dep.deps (l.take j))) W → Calls Try.prog 34 #[.pointer (some ⟨q, 0, none⟩), exV y co ck, .int .i64 dp1] W fun e w' => e = .returned (.bool sm) ∧ (sm = true → MAt q (n + 1 + Xp.cnt.cnts (l.take (j + 1))) (max d (dp + Xp.dep.deps (l.take (j + 1)))) w') ∧ W.grownBy w' (some q)) := Lib.hid fun W hg hW => by
        have hA := HA.out
        have hD := HDP.out
        have hR := HR.out.2.2.2
        have hxs := hyl.stay (fun _ h => h) fun b hb => hg.block b (by have := hS b hb; have := lt_of_heap HR.out.1; omega) (by intro e; cases e; have := hS q hb; omega)
        rw [hsm, hD]
        by_cases hlt2 : n + 1 + Xp.cnt.cnts (l.take (j + 1)) < 1000
        · have := mexpr_any hS hq y (n + 1 + Xp.cnt.cnts (l.take j)) (max d (dp + Xp.dep.deps (l.take j))) (dp + 1) co ck W hW hck hxs (by omega) (by omega) (by omega)
          rw [show n + 1 + Xp.cnt.cnts (l.take j) + y.cnt = n + 1 + Xp.cnt.cnts (l.take (j + 1)) from by omega, show max (max d (dp + Xp.dep.deps (l.take j))) (dp + 1 + y.dep - 1) = max d (dp + Xp.dep.deps (l.take (j + 1))) from by omega] at this
          refine this.mono ?_
          rintro e w' ⟨h1, h2, h3⟩
          exact ⟨by rw [h1, decide_eq_true hlt2], fun _ => h2, h3⟩
        · have := mexpr_big hS hq y (n + 1 + Xp.cnt.cnts (l.take j)) (max d (dp + Xp.dep.deps (l.take j))) (dp + 1) co ck W hW hck hxs hty (by omega) (by omega) (by omega) (by omega)
          refine this.mono ?_
          rintro e w' ⟨h1, h2⟩
          exact ⟨by rw [h1, decide_eq_false hlt2], (fun h => by rw [decide_eq_false hlt2] at h; cases h), h2⟩
      have HSM := Lib.hid hsm
      obtain ⟨cm, hcm⟩ : ∃ c, c = y.args.length := ⟨_, rfl⟩
      obtain ⟨yo, hyo⟩ : ∃ v, v = y.op := ⟨_, rfl⟩
      obtain ⟨yn, hyn⟩ : ∃ v, v = y.n := ⟨_, rfl⟩
      obtain ⟨ys, hys⟩ : ∃ v, v = y.nm := ⟨_, rfl⟩
      rw [← hcm] at y3
      rw [← hyo] at y0
      rw [← hyn] at y1
      rw [← hys] at y2
      have CY2 : Hid (∀ W, wr.grownBy W (some q) → MAt q (n + 1 + Xp.cnt.cnts (l.take j)) (max d (dp + Xp.dep.deps (l.take j))) W → Calls Try.prog 34 #[.pointer (some ⟨q, 0, none⟩), .agg #[.int .i64 yo, .int .i64 yn, .string ys, .slice co cm ck], .int .i64 dp1] W fun e w' => e = .returned (.bool sm) ∧ (sm = true → MAt q (n + 1 + Xp.cnt.cnts (l.take (j + 1))) (max d (dp + Xp.dep.deps (l.take (j + 1)))) w') ∧ W.grownBy w' (some q)) := by
        rw [hcm, hyo, hyn, hys]; exact CY
      obtain ⟨⟨r0, r1, r2, r3⟩, p0, p1, p2, p3⟩ := new_zero wr (.int .i64 0) (.int .i64 0) (.string ⟨#[]⟩) (.slice none 0 0) 53
      obtain ⟨u, hu⟩ : ∃ u, u = wr.heap.size := ⟨_, rfl⟩
      have j0 : (0 : Int) ≤ (j : Int) := by omega
      have j1 : (j : Int) < (m : Int) := by omega
      clear hcm hyo hyn hys hsa hck hyl hy CY hcj hdj hle hpos hty hsm
      go_upto_region 6 with fail
      clear r0 r1 r2 r3 p0 p1 p2 p3 y0 y1 y2 y3
      obtain ⟨W3, hW3⟩ : ∃ X, wr.alloc (.cells #[.int .i64 yo, .int .i64 yn, .string ys, .slice co cm ck] 53) = X := ⟨_, rfl⟩
      have HB3 := Lib.hid (made_box wr _ W3 hW3)
      have hb3 : W3.heap[wr.heap.size]? = some (.cells #[.int .i64 yo, .int .i64 yn, .string ys, .slice co cm ck] 53 (0, 0)) := by rw [← hW3]; exact heap_alloc_new _ _
      rw [hW3]
      obtain ⟨y0, y1, y2, y3⟩ := quad hb3
      rw [← hu] at y0 y1 y2 y3 ⊢
      clear hb3 hW3 hu
      have HM3 : Hid (MAt q (n + 1 + Xp.cnt.cnts (l.take j)) (max d (dp + Xp.dep.deps (l.take j))) W3) := Lib.hid ((HB3.out.1.2.block q (lt_of_heap HR.out.1)).trans HR.out.1)
      have HZ3 : Hid (W3.heap[z]? = w2.heap[z]? ∧ z < W3.heap.size) := Lib.hid (by
        have : z < wr.heap.size := by have := lt_of_heap HB2.out; rw [← HR.out.2.2.1] at HB2; exact lt_of_heap HB2.out
        exact ⟨(HB3.out.1.2.block z this).trans HR.out.2.2.1, Nat.lt_of_lt_of_le this HB3.out.1.2.size⟩)
      cases sm with
      | true =>
        go_wp2_with (go_at_call 34; (with_reducible refine (CY2.out _ (HB3.out.2 q) HM3.out).mono ?_); rintro e w4 ⟨rfl, h1, h2⟩; have HZ4 := Lib.hid (And.intro (h1 rfl) (And.intro (only_trans HR.out.2.1 (only_trans (HB3.out.2 q) h2)) (And.intro ((h2.block z HZ3.out.2 (by intro e; cases e; exact HZQ.out rfl)).trans HZ3.out.1) (of_decide_eq_true HSM.out.symm)))); clear h1 h2)
        go_roundw
        case rel => exact ⟨j + 1, by omega, by go_num, HZ4⟩
        case measure => simp [intOf]; omega
      | false =>
        go_wp2_with (go_at_call 34; (with_reducible refine (CY2.out _ (HB3.out.2 q) HM3.out).mono ?_); rintro e w4 ⟨rfl, h1, h2⟩; have HZ4 := Lib.hid (only_trans HR.out.2.1 (only_trans (HB3.out.2 q) h2)); clear h1 h2)
        go_ret
        exact ⟨rfl, HZ4.out⟩
    · obtain rfl : j = m := by omega
      have HF := HR.out
      rw [List.take_of_length_le (by rw [HM.out]; exact Nat.le_refl _)] at HF
      have HF2 := Lib.hid HF
      clear HF HR
      have HBZ := Lib.hid (HF2.out.2.2.1.trans HB2.out)
      have HFN := Lib.hid HF2.out.2.2.2
      have c3 : wr.cell? ⟨z, 3, none⟩ = some (.slice to' m2 tk') := cell_blk HBZ.out 3
      go_upto_region 10 with fail
      clear c3
      obtain ⟨wk, hwk⟩ : ∃ X, X = wr := ⟨_, rfl⟩
      rw [← hwk] at HF2 HBZ ⊢
      clear hwk
      go_loopw [32] (fun v wr => ∃ j : Nat, j ≤ m2 ∧ v = .int .i64 j ∧ Hid (MAt q (n + 1 + Xp.cnt.cnts l + Tr.cnt.cnts (l2.take j)) (max d (dp + max (Xp.dep.deps l) (Tr.dep.deps (l2.take j)))) wr ∧ w.grownBy wr (some q) ∧ n + 1 + Xp.cnt.cnts l + Tr.cnt.cnts (l2.take j) < 1000)) (fun v _ => m2 - (intOf v).toNat)
      case atStart => exact ⟨0, by omega, rfl, Lib.hid ⟨by simpa [Tr.cnt.cnts, Tr.dep.deps] using HF2.out.1, HF2.out.2.1, by have := HFN.out; simpa [Tr.cnt.cnts] using this⟩⟩
      case round =>
        obtain ⟨j2, hj2, rfl, HR⟩ := hrel
        by_cases hlt2 : j2 < m2
        · obtain ⟨y, hy⟩ : ∃ y, l2[j2]? = some y := ⟨_, List.getElem?_eq_getElem (by rw [← HM2.out]; exact hlt2)⟩
          obtain ⟨a, eo, ek, tb, tk, rfl, hsa, hek, htk, ⟨y0, y1, y2, y3⟩, hel, htl⟩ := (HY.out wr HR.out.2.1).get hy
          have IHy := HI.out y (List.mem_of_getElem? hy)
          have hcj := tcnts_take hy
          have hdj := tdeps_take hy
          have hle := tcnts_le l2 (j2 + 1)
          have hpos := y.dep_eq
          have hty := (tthins_all _).1 HTE.out.2.2 y (List.mem_of_getElem? hy)
          obtain ⟨sm, hsm⟩ : ∃ sm, sm = decide (n + 1 + Xp.cnt.cnts l + Tr.cnt.cnts (l2.take (j2 + 1)) < 1000) := ⟨_, rfl⟩
          have CY : Hid (∀ W, wr.grownBy W (some q) → MAt q (n + 1 + Xp.cnt.cnts l + Tr.cnt.cnts (l2.take j2)) (max d (dp + max (Xp.dep.deps l) (Tr.dep.deps (l2.take j2)))) W → Calls Try.prog 19 #[.pointer (some ⟨q, 0, none⟩), trV y eo ek tb tk, .int .i64 dp1] W fun e w' => e = .returned (.bool sm) ∧ (sm = true → MAt q (n + 1 + Xp.cnt.cnts l + Tr.cnt.cnts (l2.take (j2 + 1))) (max d (dp + max (Xp.dep.deps l) (Tr.dep.deps (l2.take (j2 + 1))))) w') ∧ W.grownBy w' (some q)) := Lib.hid fun W hg hW => by
            have hA := HA.out
            have hD := HDP.out
            have hR := HR.out.2.2
            have hst : ∀ b, S b → W.heap[b]? = wr.heap[b]? := fun b hb => hg.block b (by have := hS b hb; have := lt_of_heap HR.out.1; omega) (by intro e; cases e; have := hS q hb; omega)
            rw [hsm, hD]
            by_cases hlt3 : n + 1 + Xp.cnt.cnts l + Tr.cnt.cnts (l2.take (j2 + 1)) < 1000
            · have := mterm_any hS hq y (n + 1 + Xp.cnt.cnts l + Tr.cnt.cnts (l2.take j2)) (max d (dp + max (Xp.dep.deps l) (Tr.dep.deps (l2.take j2)))) (dp + 1) eo ek tb tk W hW hek htk (hel.stay (fun _ h => h) hst) (htl.stay (fun _ h => h) hst) (by omega) (by omega) (by omega)
              rw [show n + 1 + Xp.cnt.cnts l + Tr.cnt.cnts (l2.take j2) + y.cnt = n + 1 + Xp.cnt.cnts l + Tr.cnt.cnts (l2.take (j2 + 1)) from by omega, show max (max d (dp + max (Xp.dep.deps l) (Tr.dep.deps (l2.take j2)))) (dp + 1 + y.dep - 1) = max d (dp + max (Xp.dep.deps l) (Tr.dep.deps (l2.take (j2 + 1)))) from by omega] at this
              refine this.mono ?_
              rintro e w' ⟨h1, h2, h3⟩
              exact ⟨by rw [h1, decide_eq_true hlt3], fun _ => h2, h3⟩
            · have := IHy (n + 1 + Xp.cnt.cnts l + Tr.cnt.cnts (l2.take j2)) (max d (dp + max (Xp.dep.deps l) (Tr.dep.deps (l2.take j2)))) (dp + 1) eo ek tb tk W hW hek htk (hel.stay (fun _ h => h) hst) (htl.stay (fun _ h => h) hst) hty (by omega) (by omega) (by omega) (by omega)
              refine this.mono ?_
              rintro e w' ⟨h1, h2⟩
              exact ⟨by rw [h1, decide_eq_false hlt3], (fun h => by rw [decide_eq_false hlt3] at h; cases h), h2⟩
          have HSM := Lib.hid hsm
          obtain ⟨em, hem⟩ : ∃ c, c = y.exprs.length := ⟨_, rfl⟩
          obtain ⟨tm, htm⟩ : ∃ c, c = y.terms.length := ⟨_, rfl⟩
          obtain ⟨yo, hyo⟩ : ∃ v, v = y.op := ⟨_, rfl⟩
          obtain ⟨ys, hys⟩ : ∃ v, v = y.nm := ⟨_, rfl⟩
          rw [← hem] at y2
          rw [← htm] at y3
          rw [← hyo] at y0
          rw [← hys] at y1
          have CY2 : Hid (∀ W, wr.grownBy W (some q) → MAt q (n + 1 + Xp.cnt.cnts l + Tr.cnt.cnts (l2.take j2)) (max d (dp + max (Xp.dep.deps l) (Tr.dep.deps (l2.take j2)))) W → Calls Try.prog 19 #[.pointer (some ⟨q, 0, none⟩), .agg #[.int .i64 yo, .string ys, .slice eo em ek, .slice tb tm tk], .int .i64 dp1] W fun e w' => e = .returned (.bool sm) ∧ (sm = true → MAt q (n + 1 + Xp.cnt.cnts l + Tr.cnt.cnts (l2.take (j2 + 1))) (max d (dp + max (Xp.dep.deps l) (Tr.dep.deps (l2.take (j2 + 1))))) w') ∧ W.grownBy w' (some q)) := by
            rw [hem, htm, hyo, hys]; exact CY
          obtain ⟨⟨r0, r1, r2, r3⟩, p0, p1, p2, p3⟩ := new_zero wr (.int .i64 0) (.string ⟨#[]⟩) (.slice none 0 0) (.slice none 0 0) 32
          obtain ⟨u, hu⟩ : ∃ u, u = wr.heap.size := ⟨_, rfl⟩
          have j0 : (0 : Int) ≤ (j2 : Int) := by omega
          have j1 : (j2 : Int) < (m2 : Int) := by omega
          clear hem htm hyo hys hsa hek htk hel htl hy CY IHy hcj hdj hle hpos hty hsm
          go_upto_region 12 with fail
          clear r0 r1 r2 r3 p0 p1 p2 p3 y0 y1 y2 y3
          obtain ⟨W3, hW3⟩ : ∃ X, wr.alloc (.cells #[.int .i64 yo, .string ys, .slice eo em ek, .slice tb tm tk] 32) = X := ⟨_, rfl⟩
          have HB3 := Lib.hid (made_box wr _ W3 hW3)
          have hb3 : W3.heap[wr.heap.size]? = some (.cells #[.int .i64 yo, .string ys, .slice eo em ek, .slice tb tm tk] 32 (0, 0)) := by rw [← hW3]; exact heap_alloc_new _ _
          rw [hW3]
          obtain ⟨y0, y1, y2, y3⟩ := quad hb3
          rw [← hu] at y0 y1 y2 y3 ⊢
          clear hb3 hW3 hu
          have HM3 : Hid (MAt q (n + 1 + Xp.cnt.cnts l + Tr.cnt.cnts (l2.take j2)) (max d (dp + max (Xp.dep.deps l) (Tr.dep.deps (l2.take j2)))) W3) := Lib.hid ((HB3.out.1.2.block q (lt_of_heap HR.out.1)).trans HR.out.1)
          cases sm with
          | true =>
            go_wp2_with (go_at_call 19; (with_reducible refine (CY2.out _ (HB3.out.2 q) HM3.out).mono ?_); rintro e w4 ⟨rfl, h1, h2⟩; have HZ4 := Lib.hid (And.intro (h1 rfl) (And.intro (only_trans HR.out.2.1 (only_trans (HB3.out.2 q) h2)) (of_decide_eq_true HSM.out.symm))); clear h1 h2)
            go_roundw
            case rel => exact ⟨j2 + 1, by omega, by go_num, HZ4⟩
            case measure => simp [intOf]; omega
          | false =>
            go_wp2_with (go_at_call 19; (with_reducible refine (CY2.out _ (HB3.out.2 q) HM3.out).mono ?_); rintro e w4 ⟨rfl, h1, h2⟩; have HZ4 := Lib.hid (only_trans HR.out.2.1 (only_trans (HB3.out.2 q) h2)); clear h1 h2)
            go_ret
            exact ⟨rfl, HZ4.out⟩
        · obtain rfl : j2 = m2 := by omega
          exfalso
          have HF := HR.out.2.2
          rw [List.take_of_length_le (by rw [HM2.out]; exact Nat.le_refl _)] at HF
          have hA := HA.out
          omega
set_option maxRecDepth 100000 in
set_option maxHeartbeats 4000000 in
theorem size_big {S : Nat → Prop} (x : Tr) (eo : Option Addr) (ek : Nat) (tb : Option Addr) (tk : Nat) (w : World) (hS : ∀ b, S b → b < w.heap.size) (hk : x.exprs.length ≤ ek) (hk2 : x.terms.length ≤ tk) (hx : ExL S w x.exprs eo) (hx2 : TrL S w x.terms tb) (ht : x.thin) (hn : 1000 ≤ x.cnt) (hde : x.dep ≤ 900) :
    Calls Try.prog 8 #[trV x eo ek tb tk] w fun e w' => e = .returned (.tuple #[.int .i64 1000, .int .i64 1000]) ∧ Below w.heap.size w w' := by
  obtain ⟨z, hz⟩ : ∃ z, z = w.heap.size := ⟨_, rfl⟩
  obtain ⟨q, hq⟩ : ∃ q, q = w.heap.size + 1 := ⟨_, rfl⟩
  obtain ⟨xo, hxo⟩ : ∃ v, v = x.op := ⟨_, rfl⟩
  obtain ⟨xs, hxs⟩ : ∃ v, v = x.nm := ⟨_, rfl⟩
  obtain ⟨m, hm⟩ : ∃ m, m = x.exprs.length := ⟨_, rfl⟩
  obtain ⟨m2, hm2⟩ : ∃ m, m = x.terms.length := ⟨_, rfl⟩
  have CM : Hid (∀ W, Below w.heap.size w W → MAt q 0 0 W → Calls Try.prog 19 #[.pointer (some ⟨q, 0, none⟩), trV x eo ek tb tk, .int .i64 1] W fun e w' => e = .returned (.bool false) ∧ W.grownBy w' (some q)) := Lib.hid fun W hB hW => by
    have hst : ∀ b, S b → W.heap[b]? = w.heap[b]? := fun b hb => hB.block b (hS b hb)
    have := mterm_big hS (q := q) (by omega) x 0 0 1 eo ek tb tk W hW hk hk2 (hx.stay (fun _ h => h) hst) (hx2.stay (fun _ h => h) hst) ht (by omega) (by omega) (by omega) (by omega)
    exact this
  have hxe : trV x eo ek tb tk = .agg #[.int .i64 xo, .string xs, .slice eo m ek, .slice tb m2 tk] := by rw [hm, hm2, hxo, hxs]
  rw [hxe] at CM ⊢
  have GA : Hid (∀ W, (w.alloc (.cells #[.int .i64 xo, .string xs, .slice eo m ek, .slice tb m2 tk] 32)).alloc (.cells #[.int .i64 0, .int .i64 0] 62) = W → MAt q 0 0 W ∧ W.heap[z]? = some (.cells #[.int .i64 xo, .string xs, .slice eo m ek, .slice tb m2 tk] 32 (0, 0)) ∧ Below w.heap.size w W ∧ w.heap.size + 2 = W.heap.size) := Lib.hid (by
    rintro W rfl
    have h1 : (w.alloc (.cells #[.int .i64 xo, .string xs, .slice eo m ek, .slice tb m2 tk] 32)).heap.size = w.heap.size + 1 := by simp
    refine ⟨?_, ?_, ((Below.refl w.heap.size w).alloc (Nat.le_refl _) _).alloc (by omega) _, by simp⟩
    · rw [hq, ← h1]; exact heap_alloc_new _ _
    · rw [hz]
      exact (((Below.refl _ _).alloc (Nat.le_refl _) _).block w.heap.size (by omega)).trans (heap_alloc_new w _))
  have HQ := Lib.hid hq
  clear hx hx2 hk hk2 hn hde hxo hxs hm hm2 hxe ht
  go_enter Try.func8, Try.ntmps8
  go_upto_region 2 with fail
  obtain ⟨W, hW⟩ : ∃ x, (w.alloc (.cells #[.int .i64 xo, .string xs, .slice eo m ek, .slice tb m2 tk] 32)).alloc (.cells #[.int .i64 0, .int .i64 0] 62) = x := ⟨_, rfl⟩
  rw [hW, ← hz, show z + 1 = q from by omega]
  obtain ⟨m1, b1, g1, l1⟩ := GA.out W hW
  have HM := Lib.hid m1
  have HG := Lib.hid (And.intro g1 l1)
  obtain ⟨c0, c1, c2, c3⟩ := quad b1
  clear hW m1 b1 g1 l1 GA hz hq
  go_wp2_with (go_at_call 19; (with_reducible refine (CM.out _ HG.out.1 HM.out).mono ?_); rintro e w2 ⟨rfl, h2⟩; have HG2 := Lib.hid h2; clear h2)
  go_ret2
  exact ⟨rfl, HG.out.1.grown HG2.out (by have := HG.out.2; omega) (fun g hg => by cases hg; have := HQ.out; omega)⟩
set_option maxRecDepth 100000 in
set_option maxHeartbeats 4000000 in
theorem rightT_any {S : Nat → Prop} (x : Tr) (eo : Option Addr) (ek : Nat) (tb : Option Addr) (tk : Nat) (w : World) (hS : ∀ b, S b → b < w.heap.size) (hx : TrOk S w x eo ek tb tk) (hf : x.fit) (ht : x.thin) (hde : x.dep ≤ 900) :
    Calls Try.prog 14 #[trV x eo ek tb tk] w fun e w' => e = .returned (.bool x.rgt) ∧ Below w.heap.size w w' := by
  have hst : ∀ W, Below w.heap.size w W → ∀ b, S b → W.heap[b]? = w.heap[b]? := fun W hW b hb => hW.block b (hS b hb)
  obtain ⟨z, hz⟩ : ∃ z, z = w.heap.size := ⟨_, rfl⟩
  obtain ⟨n, d, hnd, CS⟩ : ∃ n d : Nat, (n < 1000 ∧ d < 1000 ∧ n = x.cnt ∧ d = x.dep ∨ n = 1000 ∧ d = 1000 ∧ 1000 ≤ x.cnt) ∧ Hid (∀ W, Below w.heap.size w W → Calls Try.prog 8 #[trV x eo ek tb tk] W fun e w' => e = .returned (.tuple #[.int .i64 n, .int .i64 d]) ∧ Below W.heap.size W w') := by
    rcases Nat.lt_or_ge x.cnt 1000 with h | h
    · exact ⟨x.cnt, x.dep, .inl ⟨h, by omega, rfl, rfl⟩, Lib.hid fun W hW => by
        have h2 := hx.next hS hW
        exact size_any x eo ek tb tk W (fun b hb => Nat.lt_of_lt_of_le (hS b hb) hW.size) h2.ec h2.tc h2.ex h2.te h⟩
    · exact ⟨1000, 1000, .inr ⟨rfl, rfl, h⟩, Lib.hid fun W hW => by
        have h2 := hx.next hS hW
        exact size_big x eo ek tb tk W (fun b hb => Nat.lt_of_lt_of_le (hS b hb) hW.size) h2.ec h2.tc h2.ex h2.te ht h hde⟩
  have CF : Hid (∀ w, Calls Try.prog 26 #[.int .i64 n, .int .i64 d] w fun e w' => e = .returned (.bool (decide (x.cnt ≤ 200) && decide (x.dep ≤ 16))) ∧ w = w') := Lib.hid fun w => by
    rcases hnd with ⟨h1, h2, h3, h4⟩ | ⟨rfl, rfl, h⟩
    · rw [← h3, ← h4]; exact fits_any n d h1 h2 w
    · rw [show decide (x.cnt ≤ 200) = false from by simp; omega]; exact fits_big w
  have CB : Hid ((decide (x.cnt ≤ 200) && decide (x.dep ≤ 16)) = true → ∀ W, Below w.heap.size w W → Calls Try.prog 27 #[trV x eo ek tb tk] W fun e w' => e = .returned (.bool x.blt) ∧ Below W.heap.size W w') := Lib.hid fun h W hW => by
    simp only [Bool.and_eq_true, decide_eq_true_eq] at h
    have h2 := hx.next hS hW
    exact built_any hS x eo ek tb tk W hW.size hf (by omega) h2.ec h2.tc h2.ex h2.te
  obtain ⟨g, hg⟩ : ∃ v, v = (decide (x.cnt ≤ 200) && decide (x.dep ≤ 16)) := ⟨_, rfl⟩
  have HR : Hid (x.rgt = (g && x.blt)) := Lib.hid (by rw [hg]; rfl)
  rw [← hg] at CF CB
  obtain ⟨bt, hbt⟩ : ∃ v, v = x.blt := ⟨_, rfl⟩
  rw [← hbt] at CB HR
  rw [HR.out]
  obtain ⟨xo, hxo⟩ : ∃ v, v = x.op := ⟨_, rfl⟩
  obtain ⟨xs, hxs⟩ : ∃ v, v = x.nm := ⟨_, rfl⟩
  obtain ⟨m, hm⟩ : ∃ m, m = x.exprs.length := ⟨_, rfl⟩
  obtain ⟨m2, hm2⟩ : ∃ m, m = x.terms.length := ⟨_, rfl⟩
  have hxe : trV x eo ek tb tk = .agg #[.int .i64 xo, .string xs, .slice eo m ek, .slice tb m2 tk] := by rw [hm, hm2, hxo, hxs]
  rw [hxe] at CS CB ⊢
  have GA : Hid (∀ W, w.alloc (.cells #[.int .i64 xo, .string xs, .slice eo m ek, .slice tb m2 tk] 32) = W → W.heap[z]? = some (.cells #[.int .i64 xo, .string xs, .slice eo m ek, .slice tb m2 tk] 32 (0, 0)) ∧ Below w.heap.size w W ∧ z < W.heap.size) := Lib.hid (by
    rintro W rfl
    exact ⟨by rw [hz]; exact heap_alloc_new w _, (Below.refl w.heap.size w).alloc (Nat.le_refl _) _, by rw [hz]; simp⟩)
  clear hx hf ht hde hg HR hbt hxo hxs hm hm2 hxe hnd hst
  cases g with
  | false =>
    go_enter Try.func14, Try.ntmps14
    go_upto_region 1 with fail
    obtain ⟨W, hW⟩ : ∃ x, w.alloc (.cells #[.int .i64 xo, .string xs, .slice eo m ek, .slice tb m2 tk] 32) = x := ⟨_, rfl⟩
    rw [hW, ← hz]
    obtain ⟨b1, g1, l1⟩ := GA.out W hW
    have HG := Lib.hid g1
    obtain ⟨c0, c1, c2, c3⟩ := quad b1
    clear hW b1 g1 l1 GA hz
    go_wp2_with (first | (go_at_call 8; (with_reducible refine (CS.out _ HG.out).mono ?_); rintro e w2 ⟨rfl, hb⟩; have HB2 := Lib.hid hb; clear hb c0 c1 c2 c3) | (go_at_call 26; (with_reducible refine (CF.out _).mono ?_); rintro e w3 ⟨rfl, rfl⟩))
    go_ret
    exact ⟨rfl, below_mono HG.out HB2.out (Nat.le_refl _)⟩
  | true =>
    have CB2 := Lib.hid (CB.out rfl)
    clear CB
    go_enter Try.func14, Try.ntmps14
    go_upto_region 1 with fail
    obtain ⟨W, hW⟩ : ∃ x, w.alloc (.cells #[.int .i64 xo, .string xs, .slice eo m ek, .slice tb m2 tk] 32) = x := ⟨_, rfl⟩
    rw [hW, ← hz]
    obtain ⟨b1, g1, l1⟩ := GA.out W hW
    have HG := Lib.hid g1
    have HBX := Lib.hid b1
    have HL := Lib.hid l1
    obtain ⟨c0, c1, c2, c3⟩ := quad b1
    clear hW b1 g1 l1 GA hz
    go_wp2_with (first | (go_at_call 8; (with_reducible refine (CS.out _ HG.out).mono ?_); rintro e w2 ⟨rfl, hb⟩; have HB2 := Lib.hid hb; obtain ⟨d0, d1, d2, d3⟩ := quad ((hb.block z HL.out).trans HBX.out); clear hb c0 c1 c2 c3) | (go_at_call 26; (with_reducible refine (CF.out _).mono ?_); rintro e w3 ⟨rfl, rfl⟩) | (go_at_call 27; (with_reducible refine (CB2.out _ (below_mono HG.out HB2.out (Nat.le_refl _))).mono ?_); rintro e w4 ⟨rfl, hb⟩; have HB4 := Lib.hid hb; clear hb))
    go_ret
    exact ⟨by simp, below_mono (below_mono HG.out HB2.out (Nat.le_refl _)) HB4.out (Nat.le_refl _)⟩
set_option maxRecDepth 100000 in
set_option maxHeartbeats 4000000 in
theorem fitsT_any {S : Nat → Prop} (x : Tr) (eo : Option Addr) (ek : Nat) (tb : Option Addr) (tk : Nat) (w : World) (hS : ∀ b, S b → b < w.heap.size) (hx : TrOk S w x eo ek tb tk) (hf : x.fit) (hth : x.thin) (hde : x.dep ≤ 900) :
    Calls Try.prog 20 #[trV x eo ek tb tk] w fun e w' => e = .returned (.int .i64 x.fts) ∧ Below w.heap.size w w' := by
  have CR : Hid (∀ W, Below w.heap.size w W → Calls Try.prog 14 #[trV x eo ek tb tk] W fun e w' => e = .returned (.bool x.rgt) ∧ Below W.heap.size W w') := Lib.hid fun W hW => rightT_any x eo ek tb tk W (fun b hb => by have := hS b hb; have := hW.size; omega) (hx.next hS hW) hf hth hde
  have CF : Hid (x.rgt = true → ∀ W, Below w.heap.size w W → Calls Try.prog 35 #[trV x eo ek tb tk, .slice none 0 0] W (FtP w.heap.size none 0 0 [] x.flt W)) := Lib.hid fun hr W hW => fault_any (S := S) (B := w.heap.size) hS x eo ek tb tk W none 0 0 [] hW.size (trgt_parts hr).2.2 (hx.next hS hW) (by have := (trgt_parts hr).1; omega) (World.ownsRow_nil _ _ _ 1) (by have := (trgt_parts hr).2.1; omega)
  have HFT : Hid (x.fts = if x.rgt = true then (match x.flt with | none => 0 | some _ => 12) else 1) := Lib.hid rfl
  obtain ⟨rg, hrg⟩ : ∃ v, v = x.rgt := ⟨_, rfl⟩
  obtain ⟨fl, hfl⟩ : ∃ v, v = x.flt := ⟨_, rfl⟩
  obtain ⟨ft, hft⟩ : ∃ v, v = x.fts := ⟨_, rfl⟩
  rw [← hrg] at CR CF HFT
  rw [← hfl] at CF HFT
  rw [← hft] at HFT ⊢
  obtain ⟨m, hm⟩ : ∃ m, m = x.exprs.length := ⟨_, rfl⟩
  obtain ⟨m2, hm2⟩ : ∃ m, m = x.terms.length := ⟨_, rfl⟩
  obtain ⟨xo, hxo⟩ : ∃ v, v = x.op := ⟨_, rfl⟩
  obtain ⟨xs, hxs⟩ : ∃ v, v = x.nm := ⟨_, rfl⟩
  rw [show trV x eo ek tb tk = .agg #[.int .i64 xo, .string xs, .slice eo m ek, .slice tb m2 tk] from by rw [hm, hm2, hxo, hxs]] at CR CF ⊢
  have GA := Lib.hid (term_box (.int .i64 xo) (.string xs) (.slice eo m ek) (.slice tb m2 tk) w)
  clear hx hf hth hde hS hrg hfl hft hm hm2 hxo hxs
  go_enter Try.func20, Try.ntmps20
  go_upto_region 1 with fail
  obtain ⟨z, hz⟩ : ∃ z, z = w.heap.size := ⟨_, rfl⟩
  obtain ⟨W, hW⟩ : ∃ X, w.alloc (.cells #[.int .i64 xo, .string xs, .slice eo m ek, .slice tb m2 tk] 32) = X := ⟨_, rfl⟩
  obtain ⟨g1, b1, _⟩ := GA.out W hW
  rw [hW, ← hz]
  rw [← hz] at b1
  have HG := Lib.hid g1
  have HB1 := Lib.hid b1
  obtain ⟨c0, c1, c2, c3⟩ := quad b1
  clear hW g1 b1 GA hz
  cases rg with
  | false =>
    have HF1 : Hid (ft = 1) := Lib.hid (by rw [HFT.out]; rfl)
    go_wp2_with (go_at_call 14; (with_reducible refine (CR.out _ HG.out).mono ?_); rintro e w2 ⟨rfl, hb⟩; have HB2 := Lib.hid hb; clear hb c0 c1 c2 c3)
    go_ret
    exact ⟨by rw [HF1.out]; rfl, below_mono HG.out HB2.out (Nat.le_refl _)⟩
  | true =>
    have CF2 := Lib.hid (CF.out rfl)
    clear CF
    cases fl with
    | none =>
      have HF1 : Hid (ft = 0) := Lib.hid (by rw [HFT.out]; rfl)
      have CF3 : Hid (∀ W, Below w.heap.size w W → Calls Try.prog 35 #[.agg #[.int .i64 xo, .string xs, .slice eo m ek, .slice tb m2 tk], .slice none 0 0] W fun e w' => e = .returned (.tuple #[.slice none 0 0, .bool false]) ∧ Below W.heap.size W w') := Lib.hid fun W hW => (CF2.out W hW).mono fun e w' ⟨h, hg⟩ => by
        rcases h with ⟨q, _, _, _, hq, _⟩ | ⟨_, he, _⟩
        · cases hq
        · exact ⟨he, hg.os, hg.tape, hg.output, hg.size, fun k hk => hg.block k hk (by intro e; cases e)⟩
      go_upto_region 3 with (go_at_call 14; (with_reducible refine (CR.out _ HG.out).mono ?_); rintro e w2 ⟨rfl, hb⟩; have HB2 := Lib.hid hb; clear hb c0 c1 c2 c3)
      obtain ⟨c0, c1, c2, c3⟩ := quad ((HB2.out.block z (lt_of_heap HB1.out)).trans HB1.out)
      go_wp2_with (go_at_call 35; (with_reducible refine (CF3.out _ (below_mono HG.out HB2.out (Nat.le_refl _))).mono ?_); rintro e w3 ⟨rfl, hb⟩; have HB3 := Lib.hid hb; clear hb c0 c1 c2 c3)
      go_ret
      exact ⟨by rw [HF1.out]; rfl, below_mono (below_mono HG.out HB2.out (Nat.le_refl _)) HB3.out (Nat.le_refl _)⟩
    | some p =>
      have HF1 : Hid (ft = 12) := Lib.hid (by rw [HFT.out]; rfl)
      have CF3 : Hid (∀ W, Below w.heap.size w W → Calls Try.prog 35 #[.agg #[.int .i64 xo, .string xs, .slice eo m ek, .slice tb m2 tk], .slice none 0 0] W fun e w' => (∃ qa qn qc, e = .returned (.tuple #[.slice qa qn qc, .bool true])) ∧ Below W.heap.size W w') := Lib.hid fun W hW => (CF2.out W hW).mono fun e w' ⟨h, hg⟩ => by
        rcases h with ⟨q, qa, qn, qc, hq, he, _⟩ | ⟨hq, _⟩
        · exact ⟨⟨qa, qn, qc, he⟩, hg.os, hg.tape, hg.output, hg.size, fun k hk => hg.block k hk (by intro e; cases e)⟩
        · cases hq
      go_upto_region 3 with (go_at_call 14; (with_reducible refine (CR.out _ HG.out).mono ?_); rintro e w2 ⟨rfl, hb⟩; have HB2 := Lib.hid hb; clear hb c0 c1 c2 c3)
      obtain ⟨c0, c1, c2, c3⟩ := quad ((HB2.out.block z (lt_of_heap HB1.out)).trans HB1.out)
      go_wp2_with (go_at_call 35; (with_reducible refine (CF3.out _ (below_mono HG.out HB2.out (Nat.le_refl _))).mono ?_); rintro e w3 ⟨⟨qa, qn, qc, rfl⟩, hb⟩; have HB3 := Lib.hid hb; clear hb c0 c1 c2 c3)
      go_ret
      exact ⟨by rw [HF1.out]; rfl, below_mono (below_mono HG.out HB2.out (Nat.le_refl _)) HB3.out (Nat.le_refl _)⟩
theorem bTs_thin (xs : List Xp) (hxs : ∀ x ∈ xs, x.thin ∧ x.dep ≤ 100) (l : List Kn) : ∀ i, i ≤ l.length → ∀ x ∈ bTs xs (l.take i), x.thin ∧ x.dep ≤ 101 + i := by
  intro i
  induction i with
  | zero => intro _ x hx; simp [bTs] at hx
  | succ i ih =>
    intro hi x hx
    have hf : l[i]? = some l[i] := List.getElem?_eq_getElem (by omega)
    rw [bTs_take hf] at hx
    rcases List.mem_append.1 hx with hx | hx
    · have := ih (by omega) x hx
      exact ⟨this.1, by omega⟩
    · rw [List.mem_singleton] at hx
      subst hx
      refine ⟨(Tr.thin_eq _).2 ⟨⟨?_, ?_⟩, fun y hy => (hxs y (pick_mem hy)).1, (tthins_all _).2 fun y hy => (ih (by omega) y (pick_mem hy)).1⟩, ?_⟩
      · have h1 := pick_len xs (l[i].exprs.take 3)
        have h2 : (l[i].exprs.take 3).length ≤ 3 := by rw [List.length_take]; omega
        show (pick _ _).length ≤ 400
        omega
      · have h1 := pick_len (bTs xs (l.take i)) (l[i].terms.take 4)
        have h2 : (l[i].terms.take 4).length ≤ 4 := by rw [List.length_take]; omega
        show (pick _ _).length ≤ 400
        omega
      · have hd : ∀ m : List Tr, (∀ y ∈ m, y.dep ≤ 101 + i) → Tr.dep.deps m ≤ 101 + i := by
          intro m
          induction m with
          | nil => intro _; simp [Tr.dep.deps]
          | cons a t ih2 =>
            intro h
            have h1 := ih2 fun y hy => h y (List.mem_cons_of_mem _ hy)
            have h2 := h a (List.mem_cons_self ..)
            simp only [Tr.dep.deps]
            omega
        have hd2 : ∀ m : List Xp, (∀ y ∈ m, y.dep ≤ 100) → Xp.dep.deps m ≤ 100 := by
          intro m
          induction m with
          | nil => intro _; simp [Xp.dep.deps]
          | cons a t ih2 =>
            intro h
            have h1 := ih2 fun y hy => h y (List.mem_cons_of_mem _ hy)
            have h2 := h a (List.mem_cons_self ..)
            simp only [Xp.dep.deps]
            omega
        have h1 := hd (pick (bTs xs (l.take i)) (l[i].terms.take 4)) fun y hy => (ih (by omega) y (pick_mem hy)).2
        have h2 := hd2 (pick xs (l[i].exprs.take 3)) fun y hy => (hxs y (pick_mem hy)).2
        show 1 + max (Xp.dep.deps _) (Tr.dep.deps _) ≤ 101 + (i + 1)
        omega
end Go.Proofs.Ythhimllddgfddaa
namespace Go.Proofs.Ythhimllddgfddaa
open Go.RowKit Go.PlainAid Go.Sort
set_option linter.unusedVariables false
set_option linter.unusedSimpArgs false
end Go.Proofs.Ythhimllddgfddaa
namespace Go.Proofs.Ythhimllddgfddaa
open Go.ChangeShapes Go.WideShapes Go.RowKit Go.Deep Go.WideElems Go.Maps
set_option linter.unusedVariables false
set_option linter.unusedSimpArgs false
/-- Seven cells side by side. -/
def SevX (w : World) (a : Addr) (v0 v1 v2 v3 v4 v5 v6 : Value) : Prop := w.cell? a = some v0 ∧ w.cell? ⟨a.block, a.off + 1, none⟩ = some v1 ∧ w.cell? ⟨a.block, a.off + 2, none⟩ = some v2 ∧ w.cell? ⟨a.block, a.off + 3, none⟩ = some v3 ∧ w.cell? ⟨a.block, a.off + 4, none⟩ = some v4 ∧ w.cell? ⟨a.block, a.off + 5, none⟩ = some v5 ∧ w.cell? ⟨a.block, a.off + 6, none⟩ = some v6
theorem SevX.stay {w w' : World} {a : Addr} {v0 v1 v2 v3 v4 v5 v6 : Value} (h : SevX w a v0 v1 v2 v3 v4 v5 v6) (hb : w'.heap[a.block]? = w.heap[a.block]?) : SevX w' a v0 v1 v2 v3 v4 v5 v6 :=
  ⟨(cell_heap hb).trans h.1, (cell_heap (a := ⟨a.block, a.off + 1, none⟩) hb).trans h.2.1, (cell_heap (a := ⟨a.block, a.off + 2, none⟩) hb).trans h.2.2.1, (cell_heap (a := ⟨a.block, a.off + 3, none⟩) hb).trans h.2.2.2.1, (cell_heap (a := ⟨a.block, a.off + 4, none⟩) hb).trans h.2.2.2.2.1, (cell_heap (a := ⟨a.block, a.off + 5, none⟩) hb).trans h.2.2.2.2.2.1, (cell_heap (a := ⟨a.block, a.off + 6, none⟩) hb).trans h.2.2.2.2.2.2⟩
/-- A list of parts in memory. -/
def PaA (S : Nat → Prop) (w : World) (l : List Pp) (va : Option Addr) : Prop := ∀ (i : Nat) q, l[i]? = some q → ∃ a, va = some a ∧ S a.block ∧ SevX w (a.add (i * 7)) (.int .i64 q.p.f) (.bool q.p.tn) (.slice q.uo q.p.un.length q.uk) (.int .i64 q.p.t.op) (.string q.p.t.nm) (.slice q.eo q.p.t.exprs.length q.ek) (.slice q.tb q.p.t.terms.length q.tk) ∧ QP S w q
theorem PaA.stay {S T : Nat → Prop} {w w' : World} {l : List Pp} {va : Option Addr} (h : PaA S w l va) (hT : ∀ b, S b → T b) (hS : ∀ b, S b → w'.heap[b]? = w.heap[b]?) : PaA T w' l va := fun i q hq => by
  obtain ⟨a, h1, h2, h3, h4⟩ := h i q hq
  exact ⟨a, h1, hT _ h2, h3.stay (by rw [add_block]; exact hS _ h2), h4.stay hT hS⟩
theorem flat7_get : ∀ (l : List Pp) (i : Nat) (q : Pp), l[i]? = some q → ∀ k, k < 7 → (flat7 l)[i * 7 + k]? = q.cells[k]?
  | [], i, q, h, k, hk => by simp at h
  | p :: t, 0, q, h, k, hk => by
    simp at h
    subst h
    rw [Nat.zero_mul, Nat.zero_add]
    simp only [flat7, List.flatMap_cons]
    rw [List.getElem?_append_left (by simpa using hk)]
  | p :: t, i + 1, q, h, k, hk => by
    have ih := flat7_get t i q (by simpa using h) k hk
    simp only [flat7, List.flatMap_cons] at ih ⊢
    rw [List.getElem?_append_right (by simp; omega)]
    simp only [List.length_cons, List.length_nil]
    rw [show (i + 1) * 7 + k - (0 + 1 + 1 + 1 + 1 + 1 + 1 + 1) = i * 7 + k from by omega]
    exact ih
/-- A row of parts is a list in memory. -/
theorem PaA.of {S : Nat → Prop} {w : World} {B : Nat} {va : Option Addr} {n c : Nat} {l : List Pp} (h : w.ownsRow B 70 7 (.slice va n c) l.length (flat7 l)) (hq : ∀ q ∈ l, QP S w q) (hS : ∀ b, (Value.slice va n c).ownBlock = some b → S b) : PaA S w l va := fun i q hi => by
  have hil : i < l.length := (List.getElem?_eq_some_iff.1 hi).1
  rcases h.2 with ⟨hv, h0⟩ | ⟨b, cp, cur, hv, hb, hg, hc, _, hsz, htk⟩
  · omega
  · injection hv with e1 e2 e3
    subst e1
    have hcell : ∀ k, k < 7 → w.cell? ⟨b, i * 7 + k, none⟩ = q.cells[k]? := by
      intro k hk
      rw [cell_blk hg, ← flat7_get l i q hi k hk, ← htk, List.getElem?_take_of_lt (by omega)]
      simp
    have ea : ∀ j, (⟨b, 0, none⟩ : Addr).add j = ⟨b, j, none⟩ := fun j => by unfold Addr.add; split <;> simp_all
    refine ⟨⟨b, 0, none⟩, rfl, hS b rfl, ?_, hq q (List.mem_of_getElem? hi)⟩
    rw [ea]
    exact ⟨hcell 0 (by omega), hcell 1 (by omega), hcell 2 (by omega), hcell 3 (by omega), hcell 4 (by omega), hcell 5 (by omega), hcell 6 (by omega)⟩
theorem seven_zero (w : World) (x0 x1 x2 x3 x4 x5 x6 : Value) (T : TypeId) : ((w.alloc (.cells #[x0, x1, x2, x3, x4, x5, x6] T)).cell? ⟨w.heap.size, 0, none⟩ = some x0 ∧ (w.alloc (.cells #[x0, x1, x2, x3, x4, x5, x6] T)).cell? ⟨w.heap.size, 1, none⟩ = some x1 ∧ (w.alloc (.cells #[x0, x1, x2, x3, x4, x5, x6] T)).cell? ⟨w.heap.size, 2, none⟩ = some x2 ∧ (w.alloc (.cells #[x0, x1, x2, x3, x4, x5, x6] T)).cell? ⟨w.heap.size, 3, none⟩ = some x3 ∧ (w.alloc (.cells #[x0, x1, x2, x3, x4, x5, x6] T)).cell? ⟨w.heap.size, 4, none⟩ = some x4 ∧ (w.alloc (.cells #[x0, x1, x2, x3, x4, x5, x6] T)).cell? ⟨w.heap.size, 5, none⟩ = some x5 ∧ (w.alloc (.cells #[x0, x1, x2, x3, x4, x5, x6] T)).cell? ⟨w.heap.size, 6, none⟩ = some x6) ∧ ∀ i, (w.alloc (.cells #[x0, x1, x2, x3, x4, x5, x6] T)).frozen? ⟨w.heap.size, i, none⟩ = false :=
  ⟨seven (heap_alloc_new w _), fun i => free_blk (heap_alloc_new w _) i⟩
/-- May a part go on? -/
def gOn (o : Int) : Bool := ((o == 6 || o == 7) || o == 5) || o == 9
theorem goesOn_any (o : Int) (w : World) : Calls Try.prog 23 #[.int .i64 o] w fun e w' => e = .returned (.bool (gOn o)) ∧ w = w' := by
  have hun : undef = Value.tuple #[] := rfl
  obtain ⟨r, hr⟩ : ∃ r, r = gOn o := ⟨_, rfl⟩
  rw [← hr]
  unfold gOn at hr
  cases h6 : (o == 6) <;> cases h7 : (o == 7) <;> cases h5 : (o == 5) <;> cases h9 : (o == 9) <;> rw [h6, h7, h5, h9] at hr <;> simp only [Bool.or_false, Bool.or_true, Bool.false_or, Bool.true_or] at hr <;> subst hr
  all_goals
    go_enter Try.func23, Try.ntmps23
    go_wp2_with fail
    go_ret
    exact ⟨rfl, rfl⟩
def unOk (l : List Xp) : Bool := l.all fun x => (x.kd : Int) == 2
/-- Are parts right, behind so many nodes? -/
def rgtGo : List Pt → Int → Bool
  | [], _ => true
  | p :: t, n => (gOn p.t.op && (p.t.fts == 0 && decide (p.un.length ≤ 16))) && (unOk p.un && (decide (n + p.t.cnt ≤ 200) && rgtGo t (n + p.t.cnt)))
/-- What is asked of parts: their lists are bounded. -/
def PtOk (p : Pt) : Prop := p.t.fit ∧ p.t.thin ∧ p.t.dep ≤ 900 ∧ (∀ x ∈ p.un, x.fit ∧ x.thin ∧ x.dep ≤ 900) ∧ p.un.length ≤ 1000
theorem fts_zero {t : Tr} (h : t.fts = 0) : t.cnt ≤ 200 := by
  unfold Tr.fts at h
  split at h
  · rename_i hr
    exact (trgt_parts hr).1
  · cases h
end Go.Proofs.Ythhimllddgfddaa
namespace Go.Proofs.Ythhimllddgfddaa
open Go.ChangeShapes Go.WideShapes Go.RowKit Go.Deep Go.WideElems Go.Maps
set_option linter.unusedVariables false
set_option linter.unusedSimpArgs false
theorem unOk_bad {l : List Xp} {i : Nat} {x : Xp} (h : l[i]? = some x) (hx : ((x.kd : Int) == 2) = false) : unOk l = false := by
  cases hu : unOk l with
  | false => rfl
  | true =>
    unfold unOk at hu
    rw [List.all_eq_true] at hu
    have := hu x (List.mem_of_getElem? h)
    rw [hx] at this
    cases this
theorem unOk_take {l : List Xp} {i : Nat} {x : Xp} (h : l[i]? = some x) (hx : ((x.kd : Int) == 2) = true) (ht : unOk (l.take i) = true) : unOk (l.take (i + 1)) = true := by
  unfold unOk at ht ⊢
  rw [List.take_add_one, h]
  simp only [Option.toList_some, List.all_append, ht, Bool.true_and, List.all_cons, hx, List.all_nil, Bool.and_true]
set_option maxRecDepth 100000 in
set_option maxHeartbeats 16000000 in
theorem rightL_any {S : Nat → Prop} (l : List Pp) (va : Option Addr) (vc : Nat) (w : World) (hS : ∀ b, S b → b < w.heap.size) (h : PaA S w l va) (hl : l.length ≤ 1000) (hc : ∀ q ∈ l, PtOk q.p) :
    Calls Try.prog 11 #[.slice va l.length vc] w fun e w' => e = .returned (.bool (rgtGo (l.map (·.p)) 0)) ∧ Below w.heap.size w w' := by
  obtain ⟨m, hm⟩ : ∃ m, m = l.length := ⟨_, rfl⟩
  obtain ⟨R, hR⟩ : ∃ R, R = rgtGo (l.map (·.p)) 0 := ⟨_, rfl⟩
  rw [← hm, ← hR]
  have HX : Hid (∀ W, Below w.heap.size w W → PaA S W l va) := Lib.hid fun W hW => h.stay (fun _ h => h) fun b hb => hW.block b (hS b hb)
  have HS := Lib.hid hS
  have HM := Lib.hid hm
  have HC := Lib.hid hc
  have HR0 : Hid (rgtGo ((l.map (·.p)).drop 0) 0 = R) := Lib.hid (by rw [List.drop_zero, hR])
  have hm6 : m ≤ 1000 := by omega
  have hun : undef = Value.tuple #[] := rfl
  clear h hl hm hR hS hc
  go_enter Try.func11, Try.ntmps11
  go_upto_region 3 with fail
  go_loopw [3, 14] (fun n v wr => ∃ (k : Int) (j : Nat), n = .int .i64 k ∧ v = .int .i64 j ∧ j ≤ m ∧ Hid (rgtGo ((l.map (·.p)).drop j) k = R ∧ 0 ≤ k ∧ k ≤ 200 ∧ Below w.heap.size w wr)) (fun _ v _ => m - (intOf v).toNat)
  case atStart => exact ⟨0, 0, rfl, rfl, by omega, Lib.hid ⟨HR0.out, by omega, by omega, Below.refl _ _⟩⟩
  case round =>
    obtain ⟨k, j, rfl, rfl, hj, HR⟩ := hrel
    have j0 : (0 : Int) ≤ (j : Int) := by omega
    by_cases hlt : j < m
    · obtain ⟨q, hq⟩ : ∃ q, l[j]? = some q := ⟨_, List.getElem?_eq_getElem (by rw [← HM.out]; exact hlt)⟩
      obtain ⟨a, rfl, hsa, hsx, hqp⟩ := HX.out wr HR.out.2.2.2 j q hq
      have hD : (l.map (·.p)).drop j = q.p :: (l.map (·.p)).drop (j + 1) := List.drop_eq_getElem_cons (l := l.map (·.p)) (i := j) (by rw [List.length_map, ← HM.out]; exact hlt) ▸ by
        congr 1
        have := (List.getElem?_eq_some_iff.1 hq).2
        rw [List.getElem_map, this]
      have hRR := HR.out.1
      rw [hD] at hRR
      have hok := HC.out q (List.mem_of_getElem? hq)
      obtain ⟨⟨f, tn, un, t⟩, uo, uk, eo, ek, tb, tk⟩ := q
      obtain ⟨o1, o2, o3, o4, o5⟩ := hok
      unfold rgtGo at hRR
      have hSr : ∀ b, S b → b < wr.heap.size := fun b hb => Nat.lt_of_lt_of_le (HS.out b hb) HR.out.2.2.2.size
      have CF : Hid (∀ V, Below wr.heap.size wr V → Calls Try.prog 20 #[trV t eo ek tb tk] V fun e w' => e = .returned (.int .i64 t.fts) ∧ Below V.heap.size V w') := Lib.hid fun V hV => fitsT_any t eo ek tb tk V (fun b hb => Nat.lt_of_lt_of_le (hSr b hb) hV.size) (hqp.tr.next hSr hV) o1 o2 o3
      have CS : Hid (t.fts = 0 → ∀ V, Below wr.heap.size wr V → Calls Try.prog 8 #[trV t eo ek tb tk] V fun e w' => e = .returned (.tuple #[.int .i64 t.cnt, .int .i64 t.dep]) ∧ Below V.heap.size V w') := Lib.hid fun h0 V hV => by
        have htr := hqp.tr.next hSr hV
        exact size_any t eo ek tb tk V (fun b hb => Nat.lt_of_lt_of_le (hSr b hb) hV.size) htr.ec htr.tc htr.ex htr.te (by have := fts_zero h0; omega)
      have HUN : Hid (∀ V, Below wr.heap.size wr V → ExL S V un uo) := Lib.hid fun V hV => hqp.un.stay (fun _ h => h) fun b hb => hV.block b (hSr b hb)
      have HSR := Lib.hid hSr
      have HUO := Lib.hid o4
      have HCN : Hid (t.fts = 0 → t.cnt ≤ 200) := Lib.hid fts_zero
      obtain ⟨um, hum⟩ : ∃ r, r = un.length := ⟨_, rfl⟩
      obtain ⟨op, hop⟩ : ∃ r, r = t.op := ⟨_, rfl⟩
      obtain ⟨nm, hnm⟩ : ∃ r, r = t.nm := ⟨_, rfl⟩
      obtain ⟨em, hem⟩ : ∃ r, r = t.exprs.length := ⟨_, rfl⟩
      obtain ⟨tm, htm⟩ : ∃ r, r = t.terms.length := ⟨_, rfl⟩
      obtain ⟨cn, hcn⟩ : ∃ r, r = t.cnt := ⟨_, rfl⟩
      obtain ⟨dp, hdp⟩ : ∃ r, r = t.dep := ⟨_, rfl⟩
      obtain ⟨ft, hft⟩ : ∃ r, r = t.fts := ⟨_, rfl⟩
      dsimp only at hRR hsx hum
      rw [show trV t eo ek tb tk = .agg #[.int .i64 op, .string nm, .slice eo em ek, .slice tb tm tk] from by rw [hop, hnm, hem, htm]] at CF CS
      rw [← hum, ← hop, ← hnm, ← hem, ← htm] at hsx
      rw [← hft] at CF CS HCN
      rw [← hcn, ← hdp] at CS
      rw [← hcn] at HCN
      rw [← hum, ← hop, ← hft, ← hcn] at hRR
      obtain ⟨y0, y1, y2, y3, y4, y5, y6⟩ := hsx
      obtain ⟨g, hg⟩ : ∃ g, g = gOn op := ⟨_, rfl⟩
      rw [← hg] at hRR
      have CG : Hid (∀ V, Calls Try.prog 23 #[.int .i64 op] V fun e w' => e = .returned (.bool g) ∧ V = w') := Lib.hid fun V => by rw [hg]; exact goesOn_any op V
      obtain ⟨⟨r0, r1, r2, r3, r4, r5, r6⟩, pz⟩ := seven_zero wr (.int .i64 0) (.bool false) (.slice none 0 0) (.int .i64 0) (.string ⟨#[]⟩) (.slice none 0 0) (.slice none 0 0) 70
      have p0 := pz 0
      have p1 := pz 1
      have p2 := pz 2
      have p3 := pz 3
      have p4 := pz 4
      have p5 := pz 5
      have p6 := pz 6
      obtain ⟨u, hu⟩ : ∃ u, u = wr.heap.size := ⟨_, rfl⟩
      have j1 : (j : Int) < (m : Int) := by omega
      have HRR := Lib.hid hRR
      have HUM := Lib.hid hum
      have o5 : un.length ≤ 1000 := o5
      have hum5 : um ≤ 1000 := by omega
      clear pz hq hD hRR hsa hqp o1 o2 o3 o4 o5 hum hop hnm hem htm hcn hdp hft hg hSr
      go_upto_region 5 with fail
      clear r0 r1 r2 r3 r4 r5 r6 p0 p1 p2 p3 p4 p5 p6 y0 y1 y2 y3 y4 y5 y6
      obtain ⟨W4, hW4⟩ : ∃ X, wr.alloc (.cells #[.int .i64 f, .bool tn, .slice uo um uk, .int .i64 op, .string nm, .slice eo em ek, .slice tb tm tk] 70) = X := ⟨_, rfl⟩
      obtain ⟨k4, x4, s4⟩ := seven_made (.int .i64 f) (.bool tn) (.slice uo um uk) (.int .i64 op) (.string nm) (.slice eo em ek) (.slice tb tm tk) 70 wr W4 hW4
      rw [hW4]
      rw [← hu] at x4 ⊢
      have HK4 := Lib.hid k4
      have HX4 := Lib.hid x4
      obtain ⟨c0, c1, c2, c3, c4, c5, c6⟩ := seven x4
      clear hW4 k4 x4 s4 hu
      cases g with
      | false =>
        have HRF : Hid (R = false) := Lib.hid (by rw [← HRR.out]; rfl)
        go_wp2_with (go_at_call 23; (with_reducible refine (CG.out _).mono ?_); rintro e w5 ⟨rfl, rfl⟩)
        go_ret
        exact ⟨by rw [HRF.out]; rfl, below_mono HR.out.2.2.2 HK4.out (Nat.le_refl _)⟩
      | true =>
        by_cases hf0 : ft = 0
        · subst hf0
          by_cases hu16 : um ≤ 16
          · have HCN0 := HCN.out rfl
            have HRT : Hid ((unOk un && (decide (k + (cn : Int) ≤ 200) && rgtGo ((l.map (·.p)).drop (j + 1)) (k + cn))) = R) := Lib.hid (by have := HRR.out; simpa [hu16] using this)
            have h16 : ¬ (16 : Int) < (um : Int) := by omega
            go_upto_region 8 with (first
              | (go_at_call 23; (with_reducible refine (CG.out _).mono ?_); rintro e w5 ⟨rfl, rfl⟩)
              | (go_at_call 20; (with_reducible refine (CF.out _ HK4.out).mono ?_); rintro e w5 ⟨rfl, hb⟩; have HB5 := Lib.hid hb; have HX5 := Lib.hid ((hb.block u (lt_of_heap HX4.out)).trans HX4.out); clear hb c0 c1 c2 c3 c4 c5 c6; obtain ⟨c0, c1, c2, c3, c4, c5, c6⟩ := seven HX5.out))
            have HK5 := Lib.hid (below_mono HK4.out HB5.out (Nat.le_refl _))
            clear c0 c1 c2 c3 c4 c5 c6
            go_loopw [38] (fun v wr2 => ∃ i : Nat, v = .int .i64 i ∧ i ≤ um ∧ Hid (unOk (un.take i) = true ∧ Below w5.heap.size w5 wr2)) (fun v _ => um - (intOf v).toNat)
            case atStart => exact ⟨0, rfl, by omega, Lib.hid ⟨rfl, Below.refl _ _⟩⟩
            case round =>
              obtain ⟨i, rfl, hi, HI⟩ := hrel
              have i0 : (0 : Int) ≤ (i : Int) := by omega
              have HX6 : Hid (wr.heap[u]? = some (.cells #[.int .i64 f, .bool tn, .slice uo um uk, .int .i64 op, .string nm, .slice eo em ek, .slice tb tm tk] 70 (0, 0))) := Lib.hid ((HI.out.2.block u (lt_of_heap HX5.out)).trans HX5.out)
              have HK6 := Lib.hid (below_mono HK5.out HI.out.2 (Nat.le_refl _))
              by_cases hilt : i < um
              · obtain ⟨x, hx⟩ : ∃ x, un[i]? = some x := ⟨_, List.getElem?_eq_getElem (by rw [← HUM.out]; exact hilt)⟩
                obtain ⟨a2, bo, bk, rfl, hsa2, hbk, hfx, hxa⟩ := (HUN.out wr HK6.out).get hx
                have hxo := HUO.out x (List.mem_of_getElem? hx)
                have CK : Hid (∀ V, Below wr.heap.size wr V → Calls Try.prog 24 #[exV x bo bk] V fun e w' => e = .returned (.tuple #[.int .i64 (x.kd : Nat), .bool x.has]) ∧ Below V.heap.size V w') := Lib.hid fun V hV => kindOf_any x bo bk V (fun b hb => Nat.lt_of_lt_of_le (HSR.out b hb) (Nat.le_trans HK6.out.size hV.size)) hbk (hxa.stay (fun _ h => h) fun b hb => hV.block b (Nat.lt_of_lt_of_le (HSR.out b hb) HK6.out.size)) hxo.1 hxo.2.1 hxo.2.2
                obtain ⟨xo, hxo'⟩ : ∃ r, r = x.op := ⟨_, rfl⟩
                obtain ⟨xn, hxn⟩ : ∃ r, r = x.n := ⟨_, rfl⟩
                obtain ⟨xs, hxs⟩ : ∃ r, r = x.nm := ⟨_, rfl⟩
                obtain ⟨xl, hxl⟩ : ∃ r, r = x.args.length := ⟨_, rfl⟩
                obtain ⟨kd, hkd⟩ : ∃ r : Int, r = (x.kd : Nat) := ⟨_, rfl⟩
                obtain ⟨hs, hhs⟩ : ∃ r, r = x.has := ⟨_, rfl⟩
                rw [show exV x bo bk = .agg #[.int .i64 xo, .int .i64 xn, .string xs, .slice bo xl bk] from by rw [hxo', hxn, hxs, hxl], ← hkd, ← hhs] at CK
                rw [← hxo', ← hxn, ← hxs, ← hxl] at hfx
                obtain ⟨y0, y1, y2, y3⟩ := hfx
                obtain ⟨⟨r0, r1, r2, r3⟩, p0, p1, p2, p3⟩ := new_zero wr (.int .i64 0) (.int .i64 0) (.string ⟨#[]⟩) (.slice none 0 0) 53
                obtain ⟨u2, hu2⟩ : ∃ u, u = wr.heap.size := ⟨_, rfl⟩
                have i1 : (i : Int) < (um : Int) := by omega
                have HKD := Lib.hid hkd
                have HXI := Lib.hid hx
                clear hx hsa2 hbk hxa hxo hxo' hxn hxs hxl hkd hhs
                go_upto_region 10 with fail
                clear r0 r1 r2 r3 p0 p1 p2 p3 y0 y1 y2 y3
                obtain ⟨W7, hW7⟩ : ∃ X, wr.alloc (.cells #[.int .i64 xo, .int .i64 xn, .string xs, .slice bo xl bk] 53) = X := ⟨_, rfl⟩
                obtain ⟨k7, x7, s7⟩ := four_boxed (.int .i64 xo) (.int .i64 xn) (.string xs) (.slice bo xl bk) 53 wr W7 hW7
                rw [hW7]
                rw [← hu2] at x7 ⊢
                have HK7 := Lib.hid k7
                obtain ⟨y0, y1, y2, y3⟩ := quad x7
                clear hW7 k7 x7 s7 hu2
                cases hk2 : (kd == 2) with
                | true =>
                  have hk3 : (kd != 2) = false := by rw [bne, hk2]; rfl
                  have HT2 : Hid (unOk (un.take (i + 1)) = true) := Lib.hid (unOk_take HXI.out (by rw [← HKD.out]; exact hk2) HI.out.1)
                  go_wp2_with (go_at_call 24; (with_reducible refine (CK.out _ HK7.out).mono ?_); rintro e w8 ⟨rfl, hb⟩; have HB8 := Lib.hid (below_mono HK7.out hb (Nat.le_refl _)); clear hb)
                  go_roundw
                  case rel => exact ⟨i + 1, by go_num, by omega, Lib.hid ⟨HT2.out, below_mono HI.out.2 HB8.out (Nat.le_refl _)⟩⟩
                  case measure => simp [intOf]; omega
                | false =>
                  have hk3 : (kd != 2) = true := by rw [bne, hk2]; rfl
                  have HRF : Hid (R = false) := Lib.hid (by rw [← HRT.out, unOk_bad HXI.out (by rw [← HKD.out]; exact hk2)]; rfl)
                  go_wp2_with (go_at_call 24; (with_reducible refine (CK.out _ HK7.out).mono ?_); rintro e w8 ⟨rfl, hb⟩; have HB8 := Lib.hid (below_mono HK7.out hb (Nat.le_refl _)); clear hb)
                  go_ret
                  exact ⟨by rw [HRF.out]; rfl, below_mono HR.out.2.2.2 (below_mono HK6.out HB8.out (Nat.le_refl _)) (Nat.le_refl _)⟩
              · obtain rfl : i = um := by omega
                have HU : Hid (unOk un = true) := Lib.hid (by have := HI.out.1; rwa [List.take_of_length_le (by rw [HUM.out]; exact Nat.le_refl _)] at this)
                have i1 : ¬ (i : Int) < (i : Int) := by omega
                obtain ⟨c0, c1, c2, c3, c4, c5, c6⟩ := seven HX6.out
                have CS1 := Lib.hid (CS.out (by first | trivial | rfl) wr HK6.out)
                have hk0 := HR.out.2.1
                have hk2 := HR.out.2.2.1
                have hwk : IntKind.i64.wrap (k + (cn : Int)) = k + (cn : Int) := by rw [IntKind.wrap_i64]; omega
                have hwj : IntKind.i64.wrap ((j : Int) + 1) = ((j + 1 : Nat) : Int) := by rw [IntKind.wrap_i64]; omega
                by_cases h200 : k + (cn : Int) ≤ 200
                · have h2 : ¬ (200 : Int) < k + (cn : Int) := by omega
                  have HRN : Hid (rgtGo ((l.map (·.p)).drop (j + 1)) (k + cn) = R) := Lib.hid (by have := HRT.out; rw [HU.out] at this; simpa [h200] using this)
                  go_wp2_with (go_at_call 8; (with_reducible refine CS1.out.mono ?_); rintro e w8 ⟨rfl, hb⟩; have HB8 := Lib.hid (below_mono HK6.out hb (Nat.le_refl _)); clear hb)
                  go_roundw
                  case rel =>
                    (repeat apply Exists.intro)
                    exact ⟨⟨k + (cn : Int), j + 1, by first | rfl | go_num, by first | rfl | go_num, by omega, Lib.hid ⟨HRN.out, by omega, h200, below_mono HR.out.2.2.2 HB8.out (Nat.le_refl _)⟩⟩, rfl⟩
                  case measure => simp [intOf]; omega
                · have h2 : (200 : Int) < k + (cn : Int) := by omega
                  have HRF : Hid (R = false) := Lib.hid (by rw [← HRT.out, HU.out]; simp; intro h; exact absurd h h200)
                  go_wp2_with (go_at_call 8; (with_reducible refine CS1.out.mono ?_); rintro e w8 ⟨rfl, hb⟩; have HB8 := Lib.hid (below_mono HK6.out hb (Nat.le_refl _)); clear hb)
                  go_ret
                  exact ⟨by rw [HRF.out]; rfl, below_mono HR.out.2.2.2 HB8.out (Nat.le_refl _)⟩
          · have h16 : (16 : Int) < (um : Int) := by omega
            have HRF : Hid (R = false) := Lib.hid (by rw [← HRR.out]; simp [hu16])
            go_wp2_with (first
              | (go_at_call 23; (with_reducible refine (CG.out _).mono ?_); rintro e w5 ⟨rfl, rfl⟩)
              | (go_at_call 20; (with_reducible refine (CF.out _ HK4.out).mono ?_); rintro e w5 ⟨rfl, hb⟩; have HB5 := Lib.hid hb; have HX5 := Lib.hid ((hb.block u (lt_of_heap HX4.out)).trans HX4.out); clear hb c0 c1 c2 c3 c4 c5 c6; obtain ⟨c0, c1, c2, c3, c4, c5, c6⟩ := seven HX5.out))
            go_ret
            exact ⟨by rw [HRF.out]; rfl, below_mono HR.out.2.2.2 (below_mono HK4.out HB5.out (Nat.le_refl _)) (Nat.le_refl _)⟩
        · have hf1 : (ft == 0) = false := beq_eq_false_iff_ne.2 hf0
          have hf2 : (ft != 0) = true := by rw [bne, hf1]; rfl
          have HRF : Hid (R = false) := Lib.hid (by rw [← HRR.out, hf1]; rfl)
          clear hf0
          go_wp2_with (first
            | (go_at_call 23; (with_reducible refine (CG.out _).mono ?_); rintro e w5 ⟨rfl, rfl⟩)
            | (go_at_call 20; (with_reducible refine (CF.out _ HK4.out).mono ?_); rintro e w5 ⟨rfl, hb⟩; have HB5 := Lib.hid hb; clear hb))
          go_ret
          exact ⟨by rw [HRF.out]; rfl, below_mono HR.out.2.2.2 (below_mono HK4.out HB5.out (Nat.le_refl _)) (Nat.le_refl _)⟩
    · obtain rfl : j = m := by omega
      have j1 : ¬ (j : Int) < (j : Int) := by omega
      have HRT : Hid (R = true) := Lib.hid (by
        have := HR.out.1
        rw [List.drop_of_length_le (by rw [List.length_map, HM.out]; exact Nat.le_refl _)] at this
        rw [← this]
        rfl)
      go_wp2_with fail
      go_ret
      exact ⟨by rw [HRT.out]; rfl, HR.out.2.2.2⟩
end Go.Proofs.Ythhimllddgfddaa
namespace Go.Proofs.Ythhimllddgfddaa
open Go.ChangeShapes Go.WideShapes Go.RowKit Go.Deep Go.WideElems Go.Maps
set_option linter.unusedVariables false
set_option linter.unusedSimpArgs false
section
variable {B wb : Nat} {day : Int} {fa : Option Addr} {fc : Nat} {F : List Fx} {l : List Pp} {G : List Fw} {br : Bool} {pv gv : Value}
set_option maxRecDepth 100000 in
set_option maxHeartbeats 8000000 in
theorem weval_br (x : Xp) (bo : Option Addr) (k : Nat) (v : Vl) (w : World) (h : Wk B wb day fa fc F l G true pv gv w) (hC : ∀ V, Below w.heap.size w V → Calls Try.prog 57 #[exV x bo k, .agg #[.int .i64 day, .slice fa F.length fc]] V fun e w' => e = .returned (vlV v) ∧ Below V.heap.size V w') :
    Calls Try.prog 44 #[.pointer (some ⟨wb, 0, none⟩), exV x bo k] w fun e w' => e = .returned (vlV v) ∧ Wk B wb day fa fc F l G true pv gv w' ∧ Fr wb pv gv pv gv w w' ∧ Only [wb] w w' := by
  obtain ⟨xo, hxo⟩ : ∃ r, r = x.op := ⟨_, rfl⟩
  obtain ⟨xn, hxn⟩ : ∃ r, r = x.n := ⟨_, rfl⟩
  obtain ⟨xs, hxs⟩ : ∃ r, r = x.nm := ⟨_, rfl⟩
  obtain ⟨xl, hxl⟩ : ∃ r, r = x.args.length := ⟨_, rfl⟩
  obtain ⟨fm, hfm⟩ : ∃ r, r = F.length := ⟨_, rfl⟩
  obtain ⟨r0, n0, t0⟩ := v
  have CE := Lib.hid hC
  rw [show exV x bo k = .agg #[.int .i64 xo, .int .i64 xn, .string xs, .slice bo xl k] from by rw [hxo, hxn, hxs, hxl]] at CE ⊢
  rw [← hfm] at CE
  have HW := Lib.hid h
  have GA := Lib.hid (four_three (.int .i64 xo) (.int .i64 xn) (.string xs) (.slice bo xl k) w)
  have HFM := Lib.hid hfm
  have hun : undef = Value.tuple #[] := rfl
  clear h hC hxo hxn hxs hxl hfm
  go_enter Try.func44, Try.ntmps44
  go_upto_region 1 with fail
  obtain ⟨W, hW⟩ : ∃ X, (w.alloc (.cells #[.int .i64 xo, .int .i64 xn, .string xs, .slice bo xl k] 53)).alloc (.cells #[.int .i64 0, .int .i64 0, .bool false] 99) = X := ⟨_, rfl⟩
  obtain ⟨g1, b1, b2⟩ := GA.out W hW
  obtain ⟨z, hz⟩ : ∃ z, z = w.heap.size := ⟨_, rfl⟩
  rw [hW, ← hz]
  rw [← hz] at b1 b2
  have HG := Lib.hid g1
  have HB1 := Lib.hid b1
  have HB2 := Lib.hid b2
  have HZ := Lib.hid hz
  have HWW := Lib.hid (HW.out.next g1)
  clear hW b1 b2 g1 GA hz
  have HSF : Hid (∀ V, Below W.heap.size W V → V.cell? ⟨z, 0, none⟩ = some (.int .i64 xo) ∧ V.cell? ⟨z, 1, none⟩ = some (.int .i64 xn) ∧ V.cell? ⟨z, 2, none⟩ = some (.string xs) ∧ V.cell? ⟨z, 3, none⟩ = some (.slice bo xl k) ∧ V.cell? ⟨wb, 0, none⟩ = some (.int .i64 day) ∧ V.cell? ⟨wb, 1, none⟩ = some (.slice fa fm fc)) := Lib.hid fun V hV => by
    have hb := (hV.block z (lt_of_heap HB1.out)).trans HB1.out
    have hh := (HWW.out.next hV).hd
    rw [← HFM.out] at hh
    exact ⟨cell_blk hb 0, cell_blk hb 1, cell_blk hb 2, cell_blk hb 3, cell_blk hh 0, cell_blk hh 1⟩
  obtain ⟨c0, c1, c2, c3, d0, d1⟩ := HSF.out W (Below.refl _ _)
  go_cut [5] (fun p wx => ∃ u : Nat, p = .pointer (some ⟨u, 0, none⟩) ∧ Hid (Below W.heap.size W wx ∧ W.heap.size ≤ u ∧ wx.heap[u]? = some (.cells #[.int .i64 r0, .int .i64 n0, .bool t0] 99 (0, 0))))
  case first =>
    have HBA : Hid (Below W.heap.size W (W.alloc (.cells #[.int .i64 0, .int .i64 0, .bool false] 99)).drew ∧ (W.alloc (.cells #[.int .i64 0, .int .i64 0, .bool false] 99)).drew.heap[W.heap.size]? = some (.cells #[.int .i64 0, .int .i64 0, .bool false] 99 (0, 0))) := Lib.hid ⟨((Below.refl _ _).alloc (Nat.le_refl _) _).drew, heap_alloc_new _ _⟩
    have HBD : Hid (Below W.heap.size W W.drew) := Lib.hid (Below.refl _ _).drew
    go_region_held3 (fun w' => w'.cell? ⟨z, 0, none⟩ = some (.int .i64 xo) ∧ w'.cell? ⟨z, 1, none⟩ = some (.int .i64 xn) ∧ w'.cell? ⟨z, 2, none⟩ = some (.string xs) ∧ w'.cell? ⟨z, 3, none⟩ = some (.slice bo xl k) ∧ w'.cell? ⟨wb, 0, none⟩ = some (.int .i64 day) ∧ w'.cell? ⟨wb, 1, none⟩ = some (.slice fa fm fc))
      (first | exact HSF.out _ HB4.out | exact HSF.out _ (below_mono HB4.out ((Below.refl _ _).alloc (Nat.le_refl _) _) (Nat.le_refl _)) | exact HSF.out _ (((HB4.out.setCell (p := ⟨W.heap.size, 0, none⟩) (Nat.le_refl _) _).setCell (p := ⟨W.heap.size, 1, none⟩) (Nat.le_refl _) _).setCell (p := ⟨W.heap.size, 2, none⟩) (Nat.le_refl _) _) | (go_keep; done))
      (first
        | (go_at_call 57; (with_reducible refine (CE.out _ (below_mono HG.out HBD.out (Nat.le_refl _))).mono ?_); rintro e w4 ⟨rfl, hb⟩; have HB4 := Lib.hid (HBD.out.trans hb); clear hb; obtain ⟨⟨n0', n1', n2'⟩, p0, p1, p2⟩ := three_zero w4 (.int .i64 0) (.int .i64 0) (.bool false) 99)
        | (go_at_call 57; (with_reducible refine (CE.out _ (below_mono HG.out HBA.out.1 (Nat.le_refl _))).mono ?_); rintro e w4 ⟨rfl, hb⟩; have HB4 := Lib.hid (HBA.out.1.trans (hb.mono (by simp))); have HX4 := Lib.hid ((hb.block _ (by simp)).trans HBA.out.2); obtain ⟨n0', n1', n2'⟩ := trio HX4.out; have p0 : w4.frozen? ⟨W.heap.size, 0, none⟩ = false := free_blk HX4.out 0; have p1 : w4.frozen? ⟨W.heap.size, 1, none⟩ = false := free_blk HX4.out 1; have p2 : w4.frozen? ⟨W.heap.size, 2, none⟩ = false := free_blk HX4.out 2; clear hb))
    · go_wp2_with fail
      go_meet
      exact ⟨w4.heap.size, rfl, Lib.hid ⟨below_mono HB4.out ((Below.refl _ _).alloc (Nat.le_refl _) _) (Nat.le_refl _), HB4.out.size, heap_alloc_new _ _⟩⟩
    · go_wp2_with fail
      go_meet
      obtain ⟨k9, _, _, x9⟩ := three_set w4 W.heap.size (.int .i64 r0) (.int .i64 n0) (.bool t0) _ _ ⟨_, _, _, rfl⟩ HX4.out _ rfl
      exact ⟨W.heap.size, rfl, Lib.hid ⟨HB4.out.trans k9, Nat.le_refl _, x9⟩⟩
  case rest =>
    obtain ⟨u, rfl, HU⟩ := hcut
    clear c0 c1 c2 c3 d0 d1
    have HXU := Lib.hid HU.out.2.2
    obtain ⟨k0, k1, k2⟩ := trio HXU.out
    have HW2 := Lib.hid (HWW.out.next HU.out.1)
    have HR2 : Hid (wc.heap[z + 1]? = some (.cells #[.int .i64 0, .int .i64 0, .bool false] 99 (0, 0))) := Lib.hid ((HU.out.1.block _ (lt_of_heap HB2.out)).trans HB2.out)
    obtain ⟨_, _, _, _, c4, _, _, f4⟩ := HW2.out.cells
    obtain ⟨m0, m1, m2⟩ := trio HR2.out
    have q0 := free_blk HR2.out 0
    have q1 := free_blk HR2.out 1
    have q2 := free_blk HR2.out 2
    go_wp2_with fail
    obtain ⟨W9, hW9⟩ : ∃ X, ((((wc.setCell ⟨wb, 4, none⟩ (.bool true)).setCell ⟨z + 1, 0, none⟩ (.int .i64 r0)).setCell ⟨z + 1, 1, none⟩ (.int .i64 n0)).setCell ⟨z + 1, 2, none⟩ (.bool t0)) = X := ⟨_, rfl⟩
    have x9 : W9.heap[z + 1]? = some (.cells #[.int .i64 r0, .int .i64 n0, .bool t0] 99 (0, 0)) := by
      rw [← hW9]
      exact heap_set_at (i := 2) _ (heap_set_at (i := 1) _ (heap_set_at (i := 0) _ ((Below.heap_setCell _ _ _ _ (by have := HW.out.lt; have := HZ.out; show z + 1 ≠ wb; omega)).trans HR2.out)))
    have y9 : W9.heap[wb]? = some (.cells #[.int .i64 day, .slice fa F.length fc, pv, gv, .bool true] 67 (0, 0)) := by
      rw [← hW9]
      have hne : wb ≠ z + 1 := by have := HW.out.lt; have := HZ.out; omega
      rw [Below.heap_setCell _ _ _ _ hne, Below.heap_setCell _ _ _ _ hne, Below.heap_setCell _ _ _ _ hne]
      exact heap_set_at (i := 4) _ HW2.out.hd
    have k9 : Only [wb] w W9 := by
      rw [← hW9]
      have hz1 : w.heap.size ≤ z + 1 := by have := HZ.out; omega
      exact ((((only_of (below_mono HG.out HU.out.1 (Nat.le_refl _)) [wb]).set (a := ⟨wb, 4, none⟩) (.inl (by simp)) _).set (a := ⟨z + 1, 0, none⟩) (.inr hz1) _).set (a := ⟨z + 1, 1, none⟩) (.inr hz1) _).set (a := ⟨z + 1, 2, none⟩) (.inr hz1) _
    rw [hW9]
    obtain ⟨e0, e1, e2⟩ := trio x9
    have hfin := HW.out.leap k9 y9
    exact bodyPost_ret (v := .agg #[.int .i64 r0, .int .i64 n0, .bool t0]) (by simp [results, Try.results44, go_sem, e0, e1, e2]) rfl ⟨rfl, hfin.1, hfin.2, k9⟩
/-- Does a part end; is the whole broken? -/
def yesB (v : Vl) : Bool := v.kind == 2 && v.b
def ovI (ev : Xp → Vl) (un : List Xp) : Bool := un.any fun x => yesB (ev x)
def ovB (ev : Xp → Vl) (un : List Xp) : Bool := un.any fun x => (ev x).kind == 3
theorem ovI_take {ev : Xp → Vl} {un : List Xp} {j : Nat} {x : Xp} (h : un[j]? = some x) : ovI ev (un.take (j + 1)) = (ovI ev (un.take j) || yesB (ev x)) := by
  unfold ovI
  rw [List.take_add_one, h]
  simp
theorem ovB_take {ev : Xp → Vl} {un : List Xp} {j : Nat} {x : Xp} (h : un[j]? = some x) : ovB ev (un.take (j + 1)) = (ovB ev (un.take j) || (ev x).kind == 3) := by
  unfold ovB
  rw [List.take_add_one, h]
  simp
/-- eval, whether the whole is broken or not. -/
theorem weval_all (x : Xp) (bo : Option Addr) (k : Nat) (v : Vl) (w : World) (h : Wk B wb day fa fc F l G br pv gv w) (hC : ∀ V, Below w.heap.size w V → Calls Try.prog 57 #[exV x bo k, .agg #[.int .i64 day, .slice fa F.length fc]] V fun e w' => e = .returned (vlV v) ∧ Below V.heap.size V w') :
    Calls Try.prog 44 #[.pointer (some ⟨wb, 0, none⟩), exV x bo k] w fun e w' => e = .returned (vlV v) ∧ Wk B wb day fa fc F l G (br || v.kind == 3) pv gv w' ∧ Fr wb pv gv pv gv w w' ∧ Only [wb] w w' := by
  cases br with
  | false =>
    rw [Bool.false_or]
    exact weval_any x bo k v w h hC
  | true =>
    rw [Bool.true_or]
    exact weval_br x bo k v w h hC
set_option maxRecDepth 100000 in
set_option maxHeartbeats 16000000 in
theorem over_any {PE : Xp → Prop} {ev : Xp → Vl}
    (hE : ∀ x, PE x → ∀ (S : Nat → Prop) (bo : Option Addr) (k : Nat) (V : World), (∀ b, S b → b < V.heap.size) → ExL S V x.args bo → x.args.length ≤ k → FxA S fa F V → Calls Try.prog 57 #[exV x bo k, .agg #[.int .i64 day, .slice fa F.length fc]] V fun e w' => e = .returned (vlV (ev x)) ∧ Below V.heap.size V w')
    (q : Pp) (w : World) (h : Wk B wb day fa fc F l G br pv gv w) (hq : QP (Away wb pv gv w) w q) (hp : ∀ x ∈ q.p.un, PE x) (hu : q.p.un.length ≤ 900) :
    Calls Try.prog 25 #[.pointer (some ⟨wb, 0, none⟩), ptV q] w fun e w' => e = .returned (.bool (ovI ev q.p.un)) ∧ Wk B wb day fa fc F l G (br || ovB ev q.p.un) pv gv w' ∧ Fr wb pv gv pv gv w w' ∧ Only [wb] w w' := by
  obtain ⟨⟨f, tn, un, t⟩, uo, uk, eo, ek, tb, tk⟩ := q
  dsimp only at hp hu ⊢
  obtain ⟨um, hum⟩ : ∃ r, r = un.length := ⟨_, rfl⟩
  obtain ⟨op, hop⟩ : ∃ r, r = t.op := ⟨_, rfl⟩
  obtain ⟨nm, hnm⟩ : ∃ r, r = t.nm := ⟨_, rfl⟩
  obtain ⟨em, hem⟩ : ∃ r, r = t.exprs.length := ⟨_, rfl⟩
  obtain ⟨tm, htm⟩ : ∃ r, r = t.terms.length := ⟨_, rfl⟩
  rw [show ptV ⟨⟨f, tn, un, t⟩, uo, uk, eo, ek, tb, tk⟩ = .agg #[.int .i64 f, .bool tn, .slice uo um uk, .int .i64 op, .string nm, .slice eo em ek, .slice tb tm tk] from by rw [hum, hop, hnm, hem, htm]]
  obtain ⟨RI, hRI⟩ : ∃ r, r = ovI ev un := ⟨_, rfl⟩
  obtain ⟨RB, hRB⟩ : ∃ r, r = (br || ovB ev un) := ⟨_, rfl⟩
  rw [← hRI, ← hRB]
  have HRI := Lib.hid hRI
  have HRB := Lib.hid hRB
  have HW := Lib.hid h
  have HQ := Lib.hid hq
  have HP := Lib.hid hp
  have CE := Lib.hid hE
  have HUM := Lib.hid hum
  have hum9 : um ≤ 900 := by omega
  have hun : undef = Value.tuple #[] := rfl
  have GA := Lib.hid (seven_made (.int .i64 f) (.bool tn) (.slice uo um uk) (.int .i64 op) (.string nm) (.slice eo em ek) (.slice tb tm tk) 70 w)
  clear h hq hp hE hu hum hop hnm hem htm hRI hRB
  go_enter Try.func25, Try.ntmps25
  go_upto_region 1 with fail
  obtain ⟨W, hW⟩ : ∃ X, w.alloc (.cells #[.int .i64 f, .bool tn, .slice uo um uk, .int .i64 op, .string nm, .slice eo em ek, .slice tb tm tk] 70) = X := ⟨_, rfl⟩
  obtain ⟨g1, b1, s1⟩ := GA.out W hW
  obtain ⟨z, hz⟩ : ∃ z, z = w.heap.size := ⟨_, rfl⟩
  rw [hW, ← hz]
  rw [← hz] at b1
  have HG := Lib.hid g1
  obtain ⟨c0, c1, c2, c3, c4, c5, c6⟩ := seven b1
  clear hW b1 g1 GA hz s1
  go_upto_region 3 with fail
  clear c0 c1 c2 c3 c4 c5 c6
  have H0 : Hid (Wk B wb day fa fc F l G br pv gv W ∧ Only [wb] w W) := Lib.hid ⟨HW.out.next HG.out, only_of HG.out [wb]⟩
  go_loopw [5, 11] (fun b v wr => ∃ (y : Bool) (j : Nat), b = .bool y ∧ v = .int .i64 j ∧ j ≤ um ∧ Hid (y = ovI ev (un.take j) ∧ Wk B wb day fa fc F l G (br || ovB ev (un.take j)) pv gv wr ∧ Only [wb] w wr)) (fun _ v _ => um - (intOf v).toNat)
  case atStart => exact ⟨false, 0, rfl, rfl, by omega, Lib.hid ⟨rfl, by simpa [ovB] using H0.out.1, H0.out.2⟩⟩
  case round =>
    obtain ⟨y, j, rfl, rfl, hj, HR⟩ := hrel
    have j0 : (0 : Int) ≤ (j : Int) := by omega
    by_cases hlt : j < um
    · obtain ⟨x, hx⟩ : ∃ x, un[j]? = some x := ⟨_, List.getElem?_eq_getElem (by rw [← HUM.out]; exact hlt)⟩
      have hfr : Fr wb pv gv pv gv w wr := (HW.out.leap HR.out.2.2 HR.out.2.1.hd).2
      obtain ⟨a2, bo, bk, rfl, hsa2, hbk, hfx, hxa⟩ := (HQ.out.fr hfr).un.get hx
      have CV : Hid (∀ V, Below wr.heap.size wr V → Wk B wb day fa fc F l G (br || ovB ev (un.take j)) pv gv V → Calls Try.prog 44 #[.pointer (some ⟨wb, 0, none⟩), exV x bo bk] V fun e w' => e = .returned (vlV (ev x)) ∧ Wk B wb day fa fc F l G ((br || ovB ev (un.take j)) || (ev x).kind == 3) pv gv w' ∧ Fr wb pv gv pv gv V w' ∧ Only [wb] V w') := Lib.hid fun V hV hWV =>
        weval_all x bo bk (ev x) V hWV (fun U hU => CE.out x (HP.out x (List.mem_of_getElem? hx)) (Away wb pv gv wr) bo bk U (fun b hb => Nat.lt_of_lt_of_le hb.1 (Nat.le_trans hV.size hU.size)) (hxa.stay (fun _ h => h) fun b hb => (hU.block b (Nat.lt_of_lt_of_le hb.1 hV.size)).trans (hV.block b hb.1)) hbk (HR.out.2.1.fx.stay (fun _ h => h) fun b hb => (hU.block b (Nat.lt_of_lt_of_le hb.1 hV.size)).trans (hV.block b hb.1)))
      obtain ⟨xo, hxo'⟩ : ∃ r, r = x.op := ⟨_, rfl⟩
      obtain ⟨xn, hxn⟩ : ∃ r, r = x.n := ⟨_, rfl⟩
      obtain ⟨xs, hxs⟩ : ∃ r, r = x.nm := ⟨_, rfl⟩
      obtain ⟨xl, hxl⟩ : ∃ r, r = x.args.length := ⟨_, rfl⟩
      rw [show exV x bo bk = .agg #[.int .i64 xo, .int .i64 xn, .string xs, .slice bo xl bk] from by rw [hxo', hxn, hxs, hxl]] at CV
      rw [← hxo', ← hxn, ← hxs, ← hxl] at hfx
      obtain ⟨y0, y1, y2, y3⟩ := hfx
      obtain ⟨⟨r0, r1, r2, r3⟩, p0, p1, p2, p3⟩ := new_zero wr (.int .i64 0) (.int .i64 0) (.string ⟨#[]⟩) (.slice none 0 0) 53
      obtain ⟨u2, hu2⟩ : ∃ u, u = wr.heap.size := ⟨_, rfl⟩
      have j1 : (j : Int) < (um : Int) := by omega
      have HTI := Lib.hid (ovI_take (ev := ev) hx)
      have HTB := Lib.hid (ovB_take (ev := ev) hx)
      have hwj : IntKind.i64.wrap ((j : Int) + 1) = ((j + 1 : Nat) : Int) := by rw [IntKind.wrap_i64]; omega
      obtain ⟨vx, hvx⟩ : ∃ r, r = ev x := ⟨_, rfl⟩
      rw [← hvx] at CV HTI HTB
      clear hx hsa2 hbk hxa hxo' hxn hxs hxl hvx hfr
      go_upto_region 5 with fail
      clear r0 r1 r2 r3 p0 p1 p2 p3 y0 y1 y2 y3
      obtain ⟨W7, hW7⟩ : ∃ X, wr.alloc (.cells #[.int .i64 xo, .int .i64 xn, .string xs, .slice bo xl bk] 53) = X := ⟨_, rfl⟩
      obtain ⟨k7, x7, s7⟩ := four_boxed (.int .i64 xo) (.int .i64 xn) (.string xs) (.slice bo xl bk) 53 wr W7 hW7
      rw [hW7]
      rw [← hu2] at x7 ⊢
      have HK7 := Lib.hid k7
      have HW7 := Lib.hid (HR.out.2.1.next k7)
      obtain ⟨y0, y1, y2, y3⟩ := quad x7
      clear hW7 k7 x7 s7 hu2
      obtain ⟨yv, hyv⟩ : ∃ r, r = yesB vx := ⟨_, rfl⟩
      have CY : Hid (∀ V, Calls Try.prog 43 #[vlV vx] V fun e w' => e = .returned (.bool yv) ∧ Below V.heap.size V w') := Lib.hid fun V => by rw [hyv]; exact yes_any vx V
      have HYV := Lib.hid hyv
      clear hyv
      obtain ⟨vk, vn, vb⟩ := vx
      cases yv with
      | true =>
        go_wp2_with (first
          | (go_at_call 44; (with_reducible refine (CV.out _ HK7.out HW7.out).mono ?_); rintro e w8 ⟨rfl, hw8, hf8, ho8⟩; have HW8 := Lib.hid hw8; have HO8 := Lib.hid ho8; clear hw8 hf8 ho8)
          | (go_at_call 43; (with_reducible refine (CY.out _).mono ?_); rintro e w9 ⟨rfl, hb⟩; have HB9 := Lib.hid hb; clear hb))
        go_roundw
        case rel =>
          (repeat apply Exists.intro)
          first
            | exact ⟨⟨true, j + 1, by first | rfl | go_num, by first | rfl | go_num, by omega, Lib.hid ⟨by rw [HTI.out, ← HYV.out]; simp, by rw [HTB.out, ← Bool.or_assoc]; exact HW8.out.next HB9.out, ((HR.out.2.2.trans (only_of HK7.out [wb]) (fun x hx => .inl hx)).trans HO8.out (fun x hx => .inl hx)).trans (only_of HB9.out [wb]) (fun x hx => .inl hx)⟩⟩, rfl⟩
            | exact ⟨true, j + 1, by first | rfl | go_num, by first | rfl | go_num, by omega, Lib.hid ⟨by rw [HTI.out, ← HYV.out]; simp, by rw [HTB.out, ← Bool.or_assoc]; exact HW8.out.next HB9.out, ((HR.out.2.2.trans (only_of HK7.out [wb]) (fun x hx => .inl hx)).trans HO8.out (fun x hx => .inl hx)).trans (only_of HB9.out [wb]) (fun x hx => .inl hx)⟩⟩
        case measure => simp [intOf]; omega
      | false =>
        go_wp2_with (first
          | (go_at_call 44; (with_reducible refine (CV.out _ HK7.out HW7.out).mono ?_); rintro e w8 ⟨rfl, hw8, hf8, ho8⟩; have HW8 := Lib.hid hw8; have HO8 := Lib.hid ho8; clear hw8 hf8 ho8)
          | (go_at_call 43; (with_reducible refine (CY.out _).mono ?_); rintro e w9 ⟨rfl, hb⟩; have HB9 := Lib.hid hb; clear hb))
        go_roundw
        case rel =>
          (repeat apply Exists.intro)
          first
            | exact ⟨⟨y, j + 1, by first | rfl | go_num, by first | rfl | go_num, by omega, Lib.hid ⟨by rw [HTI.out, ← HYV.out, ← HR.out.1]; simp, by rw [HTB.out, ← Bool.or_assoc]; exact HW8.out.next HB9.out, ((HR.out.2.2.trans (only_of HK7.out [wb]) (fun x hx => .inl hx)).trans HO8.out (fun x hx => .inl hx)).trans (only_of HB9.out [wb]) (fun x hx => .inl hx)⟩⟩, rfl⟩
            | exact ⟨y, j + 1, by first | rfl | go_num, by first | rfl | go_num, by omega, Lib.hid ⟨by rw [HTI.out, ← HYV.out, ← HR.out.1]; simp, by rw [HTB.out, ← Bool.or_assoc]; exact HW8.out.next HB9.out, ((HR.out.2.2.trans (only_of HK7.out [wb]) (fun x hx => .inl hx)).trans HO8.out (fun x hx => .inl hx)).trans (only_of HB9.out [wb]) (fun x hx => .inl hx)⟩⟩
        case measure => simp [intOf]; omega
    · obtain rfl : j = um := by omega
      have j1 : ¬ (j : Int) < (j : Int) := by omega
      have HT : Hid (un.take j = un) := Lib.hid (List.take_of_length_le (by rw [HUM.out]; exact Nat.le_refl _))
      have hr := HR.out
      rw [HT.out, ← HRI.out, ← HRB.out] at hr
      have HF := Lib.hid hr
      clear hr
      go_wp2_with fail
      go_ret
      exact ⟨by rw [HF.out.1]; rfl, HF.out.2.1, (HW.out.leap HF.out.2.2 HF.out.2.1.hd).2, HF.out.2.2⟩
end
end Go.Proofs.Ythhimllddgfddaa
namespace Go.Proofs.Ythhimllddgfddaa
open Go.ChangeShapes Go.WideShapes Go.RowKit Go.Deep Go.WideElems Go.Maps
set_option linter.unusedVariables false
set_option linter.unusedSimpArgs false
/-- What comes of a step of right parts. -/
def stp (ev : Xp → Vl) : List Pt → Got
  | [] => some ([], [])
  | p :: t => if ovB ev p.un = true then none else if ovI ev p.un = true then stp ev t else both (p.t.acq ev p.f p.tn p.un) (stp ev t)
def sumC : List Pt → Nat
  | [] => 0
  | p :: t => p.t.cnt + sumC t
theorem sumC_take {P : List Pt} {j : Nat} {p : Pt} (h : P[j]? = some p) : sumC (P.take (j + 1)) = sumC (P.take j) + p.t.cnt := by
  induction P generalizing j with
  | nil => simp at h
  | cons y t ih =>
    cases j with
    | zero => simp at h; subst h; simp [sumC]
    | succ j => simp at h; simp [sumC, ih h]; omega
theorem sumC_le {P : List Pt} : ∀ j, sumC (P.take j) ≤ sumC P := by
  induction P with
  | nil => intro j; simp [sumC]
  | cons y t ih =>
    intro j
    cases j with
    | zero => simp [sumC]
    | succ j => simp [sumC]; have := ih j; omega
/-- What is asked of a part for a step. -/
def StOk (PE : Xp → Prop) (p : Pt) : Prop := p.t.fine PE ∧ in64 p.f = true ∧ (∀ x ∈ p.un, PE x) ∧ p.un.length ≤ 100 ∧ p.t.dep ≤ 100
theorem both_assoc (a b c : Got) : both (both a b) c = both a (both b c) := by
  unfold both
  cases a with
  | none => rfl
  | some x => cases b with
    | none => rfl
    | some y => cases c with
      | none => rfl
      | some z => simp [List.append_assoc]
theorem both_none (a : Got) : both a none = none := by
  cases a with
  | none => rfl
  | some x => rfl
section
variable {day : Int} {fa : Option Addr} {fc : Nat} {F : List Fx} {PE : Xp → Prop} {ev : Xp → Vl}
set_option maxRecDepth 100000 in
set_option maxHeartbeats 16000000 in
theorem step_good {S : Nat → Prop}
    (hE : ∀ x, PE x → ∀ (S : Nat → Prop) (bo : Option Addr) (k : Nat) (V : World), (∀ b, S b → b < V.heap.size) → ExL S V x.args bo → x.args.length ≤ k → FxA S fa F V → Calls Try.prog 57 #[exV x bo k, .agg #[.int .i64 day, .slice fa F.length fc]] V fun e w' => e = .returned (vlV (ev x)) ∧ Below V.heap.size V w')
    (hN : ∀ x, PE x → in64 (ev x).n = true) (l : List Pp) (va : Option Addr) (vc : Nat) (w : World) (hS : ∀ b, S b → b < w.heap.size) (hp : PaA S w l va) (hfx : FxA S fa F w)
    (hR : ∀ V, Below w.heap.size w V → Calls Try.prog 11 #[.slice va l.length vc] V fun e w' => e = .returned (.bool true) ∧ Below V.heap.size V w')
    (hok : ∀ q ∈ l, StOk PE q.p) (hsum : sumC (l.map (·.p)) ≤ 400) (hl : l.length ≤ 1000) :
    Calls Try.prog 13 #[.slice va l.length vc, .agg #[.int .i64 day, .slice fa F.length fc]] w fun e w' => Came w.heap.size (stp ev (l.map (·.p))) e w' ∧ Below w.heap.size w w' := by
  obtain ⟨m, hm⟩ : ∃ m, m = l.length := ⟨_, rfl⟩
  obtain ⟨fm, hfm⟩ : ∃ r, r = F.length := ⟨_, rfl⟩
  obtain ⟨R, hRR⟩ : ∃ R, R = stp ev (l.map (·.p)) := ⟨_, rfl⟩
  have CR := Lib.hid hR
  rw [← hRR]
  rw [← hm] at CR ⊢
  rw [← hfm]
  have HFM := Lib.hid hfm
  have HM := Lib.hid hm
  have HS := Lib.hid hS
  have HPA := Lib.hid hp
  have HFX := Lib.hid hfx
  have HOK := Lib.hid hok
  have HSUM := Lib.hid hsum
  have HRR := Lib.hid hRR
  have HE := Lib.hid hE
  have HN := Lib.hid hN
  have hm9 : m ≤ 1000 := by omega
  obtain ⟨k1, b1, s1⟩ := two_made (.int .i64 day) (.slice fa fm fc) 44 w _ rfl
  have HG := Lib.hid k1
  have HB := Lib.hid b1
  clear hR hm hfm hS hp hfx hok hsum hRR hE hN k1 b1 s1 hl
  go_enter Try.func13, Try.ntmps13
  go_upto_region 1 with fail
  obtain ⟨W, hW⟩ : ∃ X, w.alloc (.cells #[.int .i64 day, .slice fa fm fc] 44) = X := ⟨_, rfl⟩
  obtain ⟨z, hz⟩ : ∃ z, z = w.heap.size := ⟨_, rfl⟩
  rw [hW] at HG HB
  rw [hW]
  rw [← hz] at HB ⊢
  have HZ := Lib.hid hz
  clear hW hz
  go_upto_region 3 with (go_at_call 11; (with_reducible refine (CR.out _ HG.out).mono ?_); rintro e w4 ⟨rfl, hb⟩; have HB4 := Lib.hid hb; clear hb)
  have x4 := (HB4.out.block z (lt_of_heap HB.out)).trans HB.out
  obtain ⟨d0, d1⟩ := duo x4
  have HK4 := Lib.hid (below_mono HG.out HB4.out (Nat.le_refl _))
  clear x4
  go_upto_region 4 with fail
  clear d0 d1
  obtain ⟨W5, hW5⟩ : ∃ X, w4.alloc (.cells #[.int .i64 day, .slice fa fm fc, .slice none 0 0, .slice none 0 0, .bool false] 67) = X := ⟨_, rfl⟩
  have hw5 := hW5
  rw [HFM.out] at hw5
  obtain ⟨k5, h5, a5⟩ := works_new (S := S) w.heap.size w4 HK4.out.size (fun b hb => Nat.lt_of_lt_of_le (HS.out b hb) HK4.out.size) (HFX.out.stay (fun _ h => h) fun b hb => HK4.out.block b (HS.out b hb)) W5 hw5
  obtain ⟨wb, hwb⟩ : ∃ v, v = w4.heap.size := ⟨_, rfl⟩
  rw [hW5, ← hwb]
  rw [← hwb] at h5 a5
  have HK5 := Lib.hid (below_mono HK4.out k5 (Nat.le_refl _))
  have HW5 := Lib.hid h5
  have HA5 := Lib.hid a5
  clear hW5 hw5 k5 h5 a5 hwb
  go_upto_region 5 with fail
  go_loopw [19] (fun v wr => ∃ (j : Nat), v = .int .i64 j ∧ j ≤ m ∧ Hid (∃ l' G' br pv gv, Wk w.heap.size wb day fa fc F l' G' br pv gv wr ∧ Fr wb (.slice none 0 0) (.slice none 0 0) pv gv W5 wr ∧ (br = true → R = none) ∧ (br = false → both (some (l'.map (·.p), G')) (stp ev ((l.map (·.p)).drop j)) = R) ∧ (br = false → l'.length ≤ sumC ((l.map (·.p)).take j) ∧ G'.length ≤ sumC ((l.map (·.p)).take j)))) (fun v _ => m - (intOf v).toNat)
  case atStart => exact ⟨0, rfl, by omega, Lib.hid ⟨[], [], false, _, _, HW5.out, Fr.refl _ _ _ _, (fun h => by cases h), (fun _ => by rw [List.drop_zero, HRR.out]; cases stp ev (l.map (·.p)) with | none => rfl | some x => rfl), (fun _ => by simp)⟩⟩
  case round =>
    obtain ⟨j, rfl, hj, HR⟩ := hrel
    obtain ⟨l', G', br, pv, gv, hw, hfr, hbt, hbf, hln⟩ := HR.out
    have HWR := Lib.hid hw
    have HFR := Lib.hid hfr
    have HBT := Lib.hid hbt
    have HBF := Lib.hid hbf
    have HLN := Lib.hid hln
    have HKR := Lib.hid (HK5.out.trans (hfr.below HW5.out HK5.out.size))
    have j0 : (0 : Int) ≤ (j : Int) := by omega
    clear hw hfr hbt hbf hln HR
    by_cases hlt : j < m
    · obtain ⟨q, hq⟩ : ∃ q, l[j]? = some q := ⟨_, List.getElem?_eq_getElem (by rw [← HM.out]; exact hlt)⟩
      have hSA : ∀ b, S b → Away wb pv gv wr b := fun b hb => HFR.out.away (HA5.out b hb)
      obtain ⟨a, rfl, hsa, hsx, hqp⟩ := (HPA.out.stay (T := Away wb pv gv wr) (w' := wr) hSA (fun b hb => HKR.out.block b (HS.out b hb))) j q hq
      have hst := HOK.out q (List.mem_of_getElem? hq)
      have hPj : (l.map (·.p))[j]? = some q.p := by rw [List.getElem?_map, hq]; rfl
      have hD : (l.map (·.p)).drop j = q.p :: (l.map (·.p)).drop (j + 1) := List.drop_eq_getElem_cons (l := l.map (·.p)) (i := j) (by rw [List.length_map, ← HM.out]; exact hlt) ▸ by
        congr 1
        have := (List.getElem?_eq_some_iff.1 hq).2
        rw [List.getElem_map, this]
      have hsT := sumC_take hPj
      have hsL := sumC_le (P := l.map (·.p)) (j + 1)
      have COV : Hid (∀ V, Below wr.heap.size wr V → Calls Try.prog 25 #[.pointer (some ⟨wb, 0, none⟩), ptV q] V fun e w' => e = .returned (.bool (ovI ev q.p.un)) ∧ Wk w.heap.size wb day fa fc F l' G' (br || ovB ev q.p.un) pv gv w' ∧ Fr wb pv gv pv gv V w' ∧ Only [wb] V w') := Lib.hid fun V hV =>
        over_any HE.out q V (HWR.out.next hV) (hqp.fr (Fr.of hV)) hst.2.2.1 (by have := hst.2.2.2.1; omega)
      have CAC : Hid (br = false → ∀ V, Fr wb pv gv pv gv wr V → Wk w.heap.size wb day fa fc F l' G' false pv gv V → Calls Try.prog 21 #[.pointer (some ⟨wb, 0, none⟩), ptV q] V (AcP w.heap.size wb day fa fc F l' G' pv gv (q.p.t.acq ev q.p.f q.p.tn q.p.un) V)) := Lib.hid fun hb V kV hWV => by
        have h1 := HLN.out hb
        have h2 := HSUM.out
        exact acquire_any HE.out HN.out q.p.t hst.1 q.p.f q.p.tn q.p.un q.uo q.uk q.eo q.ek q.tb q.tk l' G' pv gv V hst.2.1 hWV (hqp.fr kV) (by omega) (by omega) (by have := hst.2.2.2.1; have := hst.2.2.2.2; omega)
      have HACL := Lib.hid (acq_len ev q.p.t q.p.f q.p.tn q.p.un)
      have HD := Lib.hid hD
      have HST := Lib.hid hsT
      obtain ⟨⟨f, tn, un, t⟩, uo, uk, eo, ek, tb, tk⟩ := q
      dsimp only at COV CAC HACL HD HST hsx
      obtain ⟨um, hum⟩ : ∃ r, r = un.length := ⟨_, rfl⟩
      obtain ⟨op, hop⟩ : ∃ r, r = t.op := ⟨_, rfl⟩
      obtain ⟨nm, hnm⟩ : ∃ r, r = t.nm := ⟨_, rfl⟩
      obtain ⟨em, hem⟩ : ∃ r, r = t.exprs.length := ⟨_, rfl⟩
      obtain ⟨tm, htm⟩ : ∃ r, r = t.terms.length := ⟨_, rfl⟩
      rw [show ptV ⟨⟨f, tn, un, t⟩, uo, uk, eo, ek, tb, tk⟩ = .agg #[.int .i64 f, .bool tn, .slice uo um uk, .int .i64 op, .string nm, .slice eo em ek, .slice tb tm tk] from by rw [hum, hop, hnm, hem, htm]] at COV CAC
      rw [← hum, ← hop, ← hnm, ← hem, ← htm] at hsx
      obtain ⟨y0, y1, y2, y3, y4, y5, y6⟩ := hsx
      obtain ⟨oi, hoi⟩ : ∃ r, r = ovI ev un := ⟨_, rfl⟩
      obtain ⟨ob, hob⟩ : ∃ r, r = ovB ev un := ⟨_, rfl⟩
      rw [← hoi, ← hob] at COV
      obtain ⟨ac, hac⟩ : ∃ r, r = t.acq ev f tn un := ⟨_, rfl⟩
      rw [← hac] at CAC HACL
      have HDD : Hid (stp ev ((l.map (·.p)).drop j) = if ob = true then none else if oi = true then stp ev ((l.map (·.p)).drop (j + 1)) else both ac (stp ev ((l.map (·.p)).drop (j + 1)))) := Lib.hid (by rw [HD.out, hoi, hob, hac]; rfl)
      obtain ⟨⟨r0, r1, r2, r3, r4, r5, r6⟩, pz⟩ := seven_zero wr (.int .i64 0) (.bool false) (.slice none 0 0) (.int .i64 0) (.string ⟨#[]⟩) (.slice none 0 0) (.slice none 0 0) 70
      have p0 := pz 0
      have p1 := pz 1
      have p2 := pz 2
      have p3 := pz 3
      have p4 := pz 4
      have p5 := pz 5
      have p6 := pz 6
      obtain ⟨u, hu⟩ : ∃ u, u = wr.heap.size := ⟨_, rfl⟩
      have j1 : (j : Int) < (m : Int) := by omega
      have hwj : IntKind.i64.wrap ((j : Int) + 1) = ((j + 1 : Nat) : Int) := by rw [IntKind.wrap_i64]; omega
      clear pz hq hD hsa hqp hst hPj hsT hsL hSA hum hop hnm hem htm hoi hob hac HD
      go_upto_region 7 with fail
      clear r0 r1 r2 r3 r4 r5 r6 p0 p1 p2 p3 p4 p5 p6 y0 y1 y2 y3 y4 y5 y6
      obtain ⟨W6, hW6⟩ : ∃ X, wr.alloc (.cells #[.int .i64 f, .bool tn, .slice uo um uk, .int .i64 op, .string nm, .slice eo em ek, .slice tb tm tk] 70) = X := ⟨_, rfl⟩
      obtain ⟨k6, x6, s6⟩ := seven_made (.int .i64 f) (.bool tn) (.slice uo um uk) (.int .i64 op) (.string nm) (.slice eo em ek) (.slice tb tm tk) 70 wr W6 hW6
      rw [hW6]
      rw [← hu] at x6 ⊢
      have HK6 := Lib.hid k6
      have HX6 := Lib.hid x6
      have HUW : Hid (u ≠ wb) := Lib.hid (by have := HWR.out.lt; omega)
      obtain ⟨c0, c1, c2, c3, c4, c5, c6⟩ := seven x6
      clear hW6 k6 x6 s6 hu
      go_upto_region 8 with (go_at_call 25; (with_reducible refine (COV.out _ HK6.out).mono ?_); rintro e w7 ⟨rfl, hw7, hf7, ho7⟩; have HW7 := Lib.hid hw7; have HF7 := Lib.hid ((Fr.of (wb := wb) (pv := pv) (gv := gv) HK6.out).trans hf7); have HX7 := Lib.hid ((ho7.block u (lt_of_heap HX6.out) (fun hm => HUW.out (List.mem_singleton.1 hm))).trans HX6.out); clear hw7 hf7 ho7 c0 c1 c2 c3 c4 c5 c6)
      obtain ⟨c0, c1, c2, c3, c4, c5, c6⟩ := seven HX7.out
      obtain ⟨_, _, _, _, d4, _, _, _⟩ := HW7.out.cells
      have HF5 := Lib.hid (HFR.out.trans HF7.out)
      have HK7 := Lib.hid (HK5.out.trans (HF5.out.below HW5.out HK5.out.size))
      by_cases hbr : (br || ob) = true
      · have HRN : Hid (R = none) := Lib.hid (by
          cases br with
          | true => exact HBT.out rfl
          | false =>
            have := HBF.out rfl
            have hob : ob = true := by simpa using hbr
            rw [HDD.out, hob, if_pos rfl, both_none] at this
            exact this.symm)
        rw [hbr] at d4
        have hw7 := HW7.out
        rw [hbr] at hw7
        have CEN := Lib.hid (end_yes w7 hw7)
        clear hw7 hbr
        go_wp2_with (go_at_call 22; (with_reducible refine CEN.out.mono ?_); rintro e w8 ⟨rfl, hb⟩; have HB8 := Lib.hid (below_mono HK7.out hb (Nat.le_refl _)); clear hb)
        rw [HRN.out]
        exact bodyPost_ret (v := .tuple #[.slice none 0 0, .slice none 0 0, .int .i64 2]) (by simp [results, Try.results13, go_sem]) rfl ⟨rfl, HB8.out⟩
      · obtain ⟨rfl, rfl⟩ : br = false ∧ ob = false := by cases br <;> cases ob <;> simp_all
        have HW8 : Hid (Wk w.heap.size wb day fa fc F l' G' false pv gv w7) := HW7
        have d4 : w7.cell? ⟨wb, 4, none⟩ = some (.bool false) := d4
        have HDF := Lib.hid (HBF.out rfl)
        have HLF := Lib.hid (HLN.out rfl)
        cases oi with
        | true =>
          have HR2 : Hid (both (some (l'.map (·.p), G')) (stp ev ((l.map (·.p)).drop (j + 1))) = R) := Lib.hid (by
            have h1 := HDF.out
            have h2 := HDD.out
            simp only [Bool.false_eq_true, if_false, if_true] at h2
            rw [h2] at h1
            exact h1)
          clear hbr
          go_wp2_with fail
          go_roundw
          case rel =>
            exact ⟨j + 1, by first | rfl | go_num, by omega, Lib.hid ⟨l', G', false, pv, gv, HW8.out, HF5.out, (fun h => by cases h), (fun _ => HR2.out), (fun _ => by have := HLF.out; have := HST.out; omega)⟩⟩
          case measure => simp [intOf]; omega
        | false =>
          have HR2 : Hid (both (some (l'.map (·.p), G')) (both ac (stp ev ((l.map (·.p)).drop (j + 1)))) = R) := Lib.hid (by
            have h1 := HDF.out
            have h2 := HDD.out
            simp only [Bool.false_eq_true, if_false] at h2
            rw [h2] at h1
            exact h1)
          have CQ := Lib.hid (CAC.out rfl w7 HF7.out HW8.out)
          clear hbr
          go_wp2_with (go_at_call 21; (with_reducible refine CQ.out.mono ?_); rintro e w8 ha; have HA8 := Lib.hid ha; obtain rfl : e = Ending.returned (.tuple #[]) := ha.1; clear ha)
          have hrel2 : ∃ l2 G2 b2 pv2 gv2, Wk w.heap.size wb day fa fc F l2 G2 b2 pv2 gv2 w8 ∧ Fr wb (.slice none 0 0) (.slice none 0 0) pv2 gv2 W5 w8 ∧ (b2 = true → R = none) ∧ (b2 = false → both (some (l2.map (·.p), G2)) (stp ev ((l.map (·.p)).drop (j + 1))) = R) ∧ (b2 = false → l2.length ≤ sumC ((l.map (·.p)).take (j + 1)) ∧ G2.length ≤ sumC ((l.map (·.p)).take (j + 1))) := by
            obtain ⟨_, l2, G2, b2, pv2, gv2, h8, f8, r8⟩ := HA8.out
            refine ⟨l2, G2, b2, pv2, gv2, h8, HF5.out.trans f8, ?_, ?_, ?_⟩
            · intro hb
              have h1 := HR2.out
              cases hac : ac with
              | none => rw [hac] at h1; exact h1.symm
              | some pg =>
                rw [hac] at r8
                exact absurd (r8.1.symm.trans hb) (by decide)
            · intro hb
              have h1 := HR2.out
              cases hac : ac with
              | none =>
                rw [hac] at r8
                exact absurd (hb.symm.trans r8) (by decide)
              | some pg =>
                rw [hac] at r8 h1
                rw [r8.2.1, r8.2.2, ← h1, ← both_assoc]
                rfl
            · intro hb
              cases hac : ac with
              | none =>
                rw [hac] at r8
                exact absurd (hb.symm.trans r8) (by decide)
              | some pg =>
                rw [hac] at r8
                have h3 := HACL.out pg.1 pg.2 hac
                have h4 : l2.length = l'.length + pg.1.length := by have := congrArg List.length r8.2.1; simpa using this
                have h5 : G2.length = G'.length + pg.2.length := by rw [r8.2.2]; simp
                have := HLF.out
                have := HST.out
                omega
          have HRL := Lib.hid hrel2
          clear hrel2
          go_roundw
          case rel =>
            exact ⟨j + 1, by first | rfl | go_num, by omega, HRL⟩
          case measure => simp [intOf]; omega
    · obtain rfl : j = m := by omega
      have j1 : ¬ (j : Int) < (j : Int) := by omega
      have hD0 : (l.map (·.p)).drop j = [] := List.drop_of_length_le (by rw [List.length_map, HM.out]; exact Nat.le_refl _)
      cases br with
      | true =>
        have HRN := Lib.hid (HBT.out rfl)
        have CEN := Lib.hid (end_yes wr HWR.out)
        clear hD0
        go_wp2_with (go_at_call 22; (with_reducible refine CEN.out.mono ?_); rintro e w8 ⟨rfl, hb⟩; have HB8 := Lib.hid (below_mono HKR.out hb (Nat.le_refl _)); clear hb)
        rw [HRN.out]
        exact bodyPost_ret (v := .tuple #[.slice none 0 0, .slice none 0 0, .int .i64 2]) (by simp [results, Try.results13, go_sem]) rfl ⟨rfl, HB8.out⟩
      | false =>
        have HRS : Hid (R = some (l'.map (·.p), G')) := Lib.hid (by
          have := HBF.out rfl
          rw [hD0] at this
          rw [← this]
          simp [both, stp])
        have CEN := Lib.hid (end_no wr HWR.out)
        clear hD0
        go_wp2_with (go_at_call 22; (with_reducible refine CEN.out.mono ?_); rintro e w8 ⟨rfl, hb⟩; have HB8 := Lib.hid hb; clear hb)
        rw [HRS.out]
        have h8 := HWR.out.next HB8.out
        exact bodyPost_ret (v := .tuple #[pv, gv, .int .i64 0]) (by simp [results, Try.results13, go_sem]) rfl ⟨⟨l', pv, gv, rfl, rfl, h8.pr, h8.gr, fun b c hb hc => h8.pg hb hc, fun q hq => (h8.ql q hq).stay (fun b hb => ⟨hb.1, hb.2.2.1, hb.2.2.2⟩) (fun _ _ => rfl)⟩, below_mono HKR.out HB8.out (Nat.le_refl _)⟩
end
end Go.Proofs.Ythhimllddgfddaa
namespace Go.Proofs.Ythhimllddgfddaa
set_option linter.unusedVariables false
set_option linter.unusedSimpArgs false
theorem flts_kid : ∀ {l : List Tr} {i : Int} {y : Tr}, Tr.flt.flts i l = none → y ∈ l → y.flt = none
  | [], i, y, h, hy => by cases hy
  | x :: t, i, y, h, hy => by
    unfold Tr.flt.flts at h
    cases hx : x.flt with
    | some p => rw [hx] at h; cases h
    | none =>
      rw [hx] at h
      rcases List.mem_cons.1 hy with rfl | hy
      · exact hx
      · exact flts_kid h hy
theorem fltX_all : ∀ {l : List Xp} {nd i : Int} {y : Xp}, fltX nd i l = none → y ∈ l → (y.knd : Int) = nd
  | [], nd, i, y, h, hy => by cases hy
  | x :: t, nd, i, y, h, hy => by
    unfold fltX at h
    split at h
    · rename_i hx
      rcases List.mem_cons.1 hy with rfl | hy
      · exact hx
      · exact fltX_all h hy
    · cases h
theorem fts_parts {t : Tr} (h : t.fts = 0) : t.rgt = true ∧ t.flt = none := by
  unfold Tr.fts at h
  split at h
  · rename_i hr
    refine ⟨hr, ?_⟩
    cases hf : t.flt with
    | none => rfl
    | some l => rw [hf] at h; cases h
  · cases h
theorem fts_kid {t y : Tr} (h : t.fts = 0) (hy : y ∈ t.terms) : y.fts = 0 ∧ y.cnt + 1 ≤ t.cnt ∧ y.dep + 1 ≤ t.dep := by
  obtain ⟨hr, hf⟩ := fts_parts h
  obtain ⟨h1, h2, h3⟩ := trgt_parts hr
  obtain ⟨i, hi⟩ := List.mem_iff_getElem?.1 hy
  have hc := tcnts_in hi
  have e1 := t.cnt_eq
  have e2 := t.dep_eq
  have hb : y.blt = true := by
    rw [t.blt_eq, tblts_all] at h3
    simp only [Bool.and_eq_true, List.all_eq_true] at h3
    exact h3.2 y hy
  have hyf : y.flt = none := by
    rw [t.flt_eq] at hf
    split at hf
    · cases hf
    · exact flts_kid hf hy
  refine ⟨?_, by omega, by omega⟩
  have hyr : y.rgt = true := by
    unfold Tr.rgt
    rw [hb, decide_eq_true (by omega : y.cnt ≤ 200), decide_eq_true (by omega : y.dep ≤ 16)]
    rfl
  unfold Tr.fts
  rw [if_pos hyr, hyf]
theorem fts_expr {t : Tr} {x : Xp} (h : t.fts = 0) (hx : x ∈ t.exprs) : (x.knd : Int) = ndK t.op ∧ x.blt = true ∧ x.cnt ≤ 200 ∧ x.dep ≤ 16 := by
  obtain ⟨hr, hf⟩ := fts_parts h
  obtain ⟨h1, h2, h3⟩ := trgt_parts hr
  obtain ⟨i, hi⟩ := List.mem_iff_getElem?.1 hx
  have hc := cnts_in hi
  have e1 := t.cnt_eq
  have e2 := t.dep_eq
  refine ⟨?_, ?_, by omega, by omega⟩
  · rw [t.flt_eq] at hf
    split at hf
    · cases hf
    · rename_i hfx
      exact fltX_all hfx hx
  · rw [t.blt_eq] at h3
    simp only [Bool.and_eq_true, List.all_eq_true] at h3
    exact h3.1.2 x hx
/-- A part that is right. -/
def RgP (p : Pt) : Prop := p.t.fts = 0 ∧ gOn p.t.op = true ∧ unOk p.un = true ∧ p.un.length + p.t.dep ≤ 16
theorem rgt_all : ∀ {P : List Pt} {n : Int}, (∀ p ∈ P, RgP p) → n + sumC P ≤ 200 → rgtGo P n = true
  | [], n, h, hn => rfl
  | p :: t, n, h, hn => by
    obtain ⟨h1, h2, h3, h4⟩ := h p (by simp)
    unfold sumC at hn
    have := rgt_all (P := t) (n := n + p.t.cnt) (fun q hq => h q (by simp [hq])) (by push_cast at hn; omega)
    unfold rgtGo
    rw [h1, h2, h3, this, decide_eq_true (by omega : p.un.length ≤ 16), decide_eq_true (by push_cast at hn; omega : n + (p.t.cnt : Int) ≤ 200)]
    rfl
theorem sumC_app (P Q : List Pt) : sumC (P ++ Q) = sumC P + sumC Q := by
  induction P with
  | nil => simp [sumC]
  | cons p t ih => simp [sumC, ih]; omega
theorem kd_of {x : Xp} (hb : x.blt = true) (hc : x.cnt ≤ 200) (hd : x.dep ≤ 16) : x.kd = x.knd := by
  have hr : x.rgt = true := by
    unfold Xp.rgt
    simp [hb, hc, hd]
  unfold Xp.kd
  simp [hr]
theorem unOk_snoc {un : List Xp} {x : Xp} (h : unOk un = true) (hx : (x.kd : Int) = 2) : unOk (un ++ [x]) = true := by
  unfold unOk at h ⊢
  rw [List.all_append, h]
  simp [hx]
/-- What comes of a right term. -/
theorem acq_rgt (ev : Xp → Vl) (t : Tr) : ∀ f tn un p g, t.fts = 0 → unOk un = true → un.length + t.dep ≤ 16 → t.acq ev f tn un = some (p, g) → (∀ y ∈ p, RgP y) ∧ sumC p ≤ t.cnt := by
  induction t using Tr.ind with
  | h t IH =>
  intro f tn un p g hft hun hlen h
  have hc1 : 1 ≤ t.cnt := by have := t.cnt_eq; omega
  rw [Tr.acq_eq] at h
  have hkid : ∀ f tn un p g, unOk un = true → un.length + t.dep ≤ 17 → (t.terms.map (Tr.acq ev)).headD noA f tn un = some (p, g) → (∀ y ∈ p, RgP y) ∧ sumC p ≤ Tr.cnt.cnts t.terms := fun f tn un p g hu hl hh => by
    cases hts : t.terms with
    | nil =>
      rw [hts] at hh
      simp [noA] at hh
      obtain ⟨rfl, rfl⟩ := hh
      exact ⟨(fun y hy => by cases hy), by simp [sumC]⟩
    | cons a r =>
      rw [hts] at hh
      have ha : a ∈ t.terms := by rw [hts]; simp
      have hk := fts_kid hft ha
      have := IH a ha f tn un p g hk.1 hu (by omega) hh
      exact ⟨this.1, by simp only [Tr.cnt.cnts]; omega⟩
  have hcn := t.cnt_eq
  have stayed : gOn t.op = true → (∀ y ∈ ([⟨f, tn, un, t⟩] : List Pt), RgP y) ∧ sumC [⟨f, tn, un, t⟩] ≤ t.cnt := fun hg => ⟨fun y hy => by
    rw [List.mem_singleton] at hy
    subst hy
    exact ⟨hft, hg, hun, hlen⟩, by simp [sumC]⟩
  unfold acqN at h
  split at h
  · simp only [Option.some.injEq, Prod.mk.injEq] at h
    obtain ⟨rfl, rfl⟩ := h
    exact ⟨(fun y hy => by cases hy), by simp [sumC]⟩
  split at h
  · split at h
    · have := hkid _ _ _ _ _ hun (by omega) h
      exact ⟨this.1, by omega⟩
    · cases h
  split at h
  · unfold both at h
    split at h
    · cases h
    · rename_i p1 g1 h1
      split at h
      · cases h
      · rename_i p2 g2 h2
        simp only [Option.some.injEq, Prod.mk.injEq] at h
        obtain ⟨rfl, rfl⟩ := h
        have k1 := hkid _ _ _ _ _ hun (by omega) h1
        match hts : t.terms with
        | [] =>
          rw [hts] at h1 h2
          simp [noA] at h1 h2
          obtain ⟨rfl, rfl⟩ := h1
          obtain ⟨rfl, rfl⟩ := h2
          exact ⟨(fun y hy => by cases hy), by simp [sumC]⟩
        | [a] =>
          rw [hts] at h2
          simp [noA] at h2
          obtain ⟨rfl, rfl⟩ := h2
          exact ⟨fun y hy => k1.1 y (by simpa using hy), by rw [sumC_app]; simp [sumC]; omega⟩
        | a :: b :: r =>
          rw [hts] at h1 h2
          have ha : a ∈ t.terms := by rw [hts]; simp
          have hb : b ∈ t.terms := by rw [hts]; simp
          have ka := fts_kid hft ha
          have kb := fts_kid hft hb
          have q1 := IH a ha f tn un p1 g1 ka.1 hun (by omega) h1
          have q2 := IH b hb f tn un p2 g2 kb.1 hun (by omega) (by simpa [List.getD] using h2)
          refine ⟨fun y hy => ?_, ?_⟩
          · rcases List.mem_append.1 hy with hy | hy
            · exact q1.1 y hy
            · exact q2.1 y hy
          · rw [hts] at hcn
            simp only [Tr.cnt.cnts] at hcn
            rw [sumC_app]
            omega
  split at h
  · rename_i ho
    simp only [Option.some.injEq, Prod.mk.injEq] at h
    obtain ⟨rfl, rfl⟩ := h
    exact stayed (by unfold gOn; rcases ho with ho | ho <;> simp [ho])
  split at h
  · rename_i ho
    dsimp only at h
    split at h
    · cases h
    split at h
    · rename_i h8
      split at h
      · simp only [Option.some.injEq, Prod.mk.injEq] at h
        obtain ⟨rfl, rfl⟩ := h
        exact ⟨(fun y hy => by cases hy), by simp [sumC]⟩
      · have hx2 : unOk (un ++ [t.exprs.headD x0]) = true := by
          cases hes : t.exprs with
          | nil =>
            have hb := (trgt_parts (fts_parts hft).1).2.2
            rw [t.blt_eq] at hb
            simp only [Bool.and_eq_true] at hb
            have := hb.1.1
            unfold okT at this
            simp only [Bool.and_eq_true, decide_eq_true_eq] at this
            have := this.1.1
            rw [hes, h8] at this
            exact absurd this (by decide)
          | cons a r =>
            have ha : a ∈ t.exprs := by rw [hes]; simp
            obtain ⟨e1, e2, e3, e4⟩ := fts_expr hft ha
            refine unOk_snoc hun ?_
            show (a.kd : Int) = 2
            rw [kd_of e2 e3 e4, e1, h8]
            rfl
        have := hkid _ _ _ _ _ hx2 (by simp; omega) h
        exact ⟨this.1, by omega⟩
    split at h
    · have := hkid _ _ _ _ _ hun (by omega) h
      exact ⟨this.1, by omega⟩
    split at h
    · split at h
      · have := hkid _ _ _ _ _ hun (by omega) h
        exact ⟨this.1, by omega⟩
      · cases h
    · simp only [Option.some.injEq, Prod.mk.injEq] at h
      obtain ⟨rfl, rfl⟩ := h
      exact stayed (by unfold gOn; rcases ho with ho | ho | ho <;> simp [ho] <;> omega)
  · simp only [Option.some.injEq, Prod.mk.injEq] at h
    obtain ⟨rfl, rfl⟩ := h
    exact ⟨(fun y hy => by cases hy), by simp [sumC]⟩
/-- A part that a step leaves as it is. -/
def StayP (ev : Xp → Vl) (y : Pt) : Prop := ovB ev y.un = false ∧ ovI ev y.un = false ∧ y.t.acq ev y.f y.tn y.un = some ([y], [])
theorem stp_stays {ev : Xp → Vl} : ∀ {P : List Pt}, (∀ y ∈ P, StayP ev y) → stp ev P = some (P, [])
  | [], h => rfl
  | p :: t, h => by
    obtain ⟨h1, h2, h3⟩ := h p (by simp)
    unfold stp
    rw [h1, h2, h3, stp_stays (P := t) fun y hy => h y (by simp [hy])]
    simp [both]
theorem acq_stays (ev : Xp → Vl) (t : Tr) : ∀ f tn un p g, ovB ev un = false → ovI ev un = false → t.acq ev f tn un = some (p, g) → ∀ y ∈ p, StayP ev y := by
  induction t using Tr.ind with
  | h t IH =>
  intro f tn un p g hb hi h
  have h0 := h
  rw [Tr.acq_eq] at h
  have hkid : ∀ f tn un p g, ovB ev un = false → ovI ev un = false → (t.terms.map (Tr.acq ev)).headD noA f tn un = some (p, g) → ∀ y ∈ p, StayP ev y := fun f tn un p g hu hl hh => by
    cases hts : t.terms with
    | nil =>
      rw [hts] at hh
      simp [noA] at hh
      obtain ⟨rfl, rfl⟩ := hh
      exact fun y hy => by cases hy
    | cons a r =>
      rw [hts] at hh
      exact IH a (by rw [hts]; simp) f tn un p g hu hl hh
  have stayed : p = [⟨f, tn, un, t⟩] → g = [] → ∀ y ∈ p, StayP ev y := fun hp hg y hy => by
    subst hp hg
    rw [List.mem_singleton] at hy
    subst hy
    exact ⟨hb, hi, h0⟩
  unfold acqN at h
  split at h
  · simp only [Option.some.injEq, Prod.mk.injEq] at h
    obtain ⟨rfl, rfl⟩ := h
    exact fun y hy => by cases hy
  split at h
  · split at h
    · exact hkid _ _ _ _ _ hb hi h
    · cases h
  split at h
  · unfold both at h
    split at h
    · cases h
    · rename_i p1 g1 h1
      split at h
      · cases h
      · rename_i p2 g2 h2
        simp only [Option.some.injEq, Prod.mk.injEq] at h
        obtain ⟨rfl, rfl⟩ := h
        have k1 := hkid _ _ _ _ _ hb hi h1
        intro y hy
        rcases List.mem_append.1 hy with hy | hy
        · exact k1 y hy
        · match hts : t.terms with
          | [] =>
            rw [hts] at h2
            simp [noA] at h2
            obtain ⟨rfl, rfl⟩ := h2
            cases hy
          | [a] =>
            rw [hts] at h2
            simp [noA] at h2
            obtain ⟨rfl, rfl⟩ := h2
            cases hy
          | a :: b :: r =>
            rw [hts] at h2
            exact IH b (by rw [hts]; simp) f tn un p2 g2 hb hi (by simpa [List.getD] using h2) y hy
  split at h
  · simp only [Option.some.injEq, Prod.mk.injEq] at h
    exact stayed h.1.symm h.2.symm
  split at h
  · dsimp only at h
    split at h
    · cases h
    rename_i hk3
    split at h
    · split at h
      · simp only [Option.some.injEq, Prod.mk.injEq] at h
        obtain ⟨rfl, rfl⟩ := h
        exact fun y hy => by cases hy
      · rename_i hk2
        generalize t.exprs.headD x0 = X at h hk3 hk2
        refine hkid _ _ _ _ _ ?_ ?_ h
        · unfold ovB at hb ⊢
          rw [List.any_append, hb]
          simp
          exact hk3
        · unfold ovI at hi ⊢
          rw [List.any_append, hi]
          simp [yesB]
          intro e
          cases hbb : (ev X).b with
          | false => rfl
          | true => exact absurd ⟨e, hbb⟩ hk2
    split at h
    · exact hkid _ _ _ _ _ hb hi h
    split at h
    · split at h
      · exact hkid _ _ _ _ _ hb hi h
      · cases h
    · simp only [Option.some.injEq, Prod.mk.injEq] at h
      exact stayed h.1.symm h.2.symm
  · simp only [Option.some.injEq, Prod.mk.injEq] at h
    obtain ⟨rfl, rfl⟩ := h
    exact fun y hy => by cases hy
/-- What comes of a step of right parts is right, of no more nodes, and stays. -/
theorem stp_rgt {ev : Xp → Vl} : ∀ {P : List Pt} {q : List Pt} {g : List Fw}, (∀ p ∈ P, RgP p) → stp ev P = some (q, g) → (∀ y ∈ q, RgP y ∧ StayP ev y) ∧ sumC q ≤ sumC P
  | [], q, g, h, hs => by
    simp [stp] at hs
    obtain ⟨rfl, rfl⟩ := hs
    exact ⟨(fun y hy => by cases hy), Nat.le_refl _⟩
  | p :: t, q, g, h, hs => by
    unfold stp at hs
    split at hs
    · cases hs
    rename_i hb
    have ht : ∀ x ∈ t, RgP x := fun x hx => h x (by simp [hx])
    split at hs
    · have := stp_rgt ht hs
      exact ⟨this.1, by simp only [sumC]; omega⟩
    rename_i hi
    unfold both at hs
    split at hs
    · cases hs
    rename_i p1 g1 h1
    split at hs
    · cases hs
    rename_i p2 g2 h2
    simp only [Option.some.injEq, Prod.mk.injEq] at hs
    obtain ⟨rfl, rfl⟩ := hs
    obtain ⟨r1, r2, r3, r4⟩ := h p (by simp)
    have k1 := acq_rgt ev p.t p.f p.tn p.un p1 g1 r1 r3 r4 h1
    have k2 := acq_stays ev p.t p.f p.tn p.un p1 g1 (by simpa using hb) (by simpa using hi) h1
    have k3 := stp_rgt ht h2
    refine ⟨fun y hy => ?_, ?_⟩
    · rcases List.mem_append.1 hy with hy | hy
      · exact ⟨k1.1 y hy, k2 y hy⟩
      · exact k3.1 y hy
    · rw [sumC_app]
      simp only [sumC]
      omega
end Go.Proofs.Ythhimllddgfddaa
namespace Go.Proofs.Ythhimllddgfddaa
set_option linter.unusedVariables false
set_option linter.unusedSimpArgs false
theorem acq_all (ev : Xp → Vl) {Q : Tr → Prop} {PX : Xp → Prop} (hk : ∀ t, Q t → ∀ y ∈ t.terms, Q y) (hx : ∀ t, Q t → t.op = 8 → PX (t.exprs.headD x0)) (t : Tr) : ∀ f tn un p g, Q t → in64 f = true → (∀ x ∈ un, PX x) → t.acq ev f tn un = some (p, g) → (∀ y ∈ p, Q y.t ∧ in64 y.f = true ∧ ∀ x ∈ y.un, PX x) ∧ ∀ w ∈ g, in64 w.n = true := by
  induction t using Tr.ind with
  | h t IH =>
  intro f tn un p g hq hf hun h
  rw [Tr.acq_eq] at h
  have none2 : (∀ y ∈ ([] : List Pt), Q y.t ∧ in64 y.f = true ∧ ∀ x ∈ y.un, PX x) ∧ ∀ w ∈ ([] : List Fw), in64 w.n = true := ⟨(fun y hy => by cases hy), (fun y hy => by cases hy)⟩
  have hkid : ∀ f tn un p g, in64 f = true → (∀ x ∈ un, PX x) → (t.terms.map (Tr.acq ev)).headD noA f tn un = some (p, g) → (∀ y ∈ p, Q y.t ∧ in64 y.f = true ∧ ∀ x ∈ y.un, PX x) ∧ ∀ w ∈ g, in64 w.n = true := fun f tn un p g hu hl hh => by
    cases hts : t.terms with
    | nil =>
      rw [hts] at hh
      simp [noA] at hh
      obtain ⟨rfl, rfl⟩ := hh
      exact none2
    | cons a r =>
      rw [hts] at hh
      have ha : a ∈ t.terms := by rw [hts]; simp
      exact IH a ha f tn un p g (hk t hq a ha) hu hl hh
  have stayed : p = [⟨f, tn, un, t⟩] → g = [] → (∀ y ∈ p, Q y.t ∧ in64 y.f = true ∧ ∀ x ∈ y.un, PX x) ∧ ∀ w ∈ g, in64 w.n = true := fun hp hg => by
    subst hp hg
    refine ⟨fun y hy => ?_, none2.2⟩
    rw [List.mem_singleton] at hy
    subst hy
    exact ⟨hq, hf, hun⟩
  unfold acqN at h
  split at h
  · simp only [Option.some.injEq, Prod.mk.injEq] at h
    obtain ⟨rfl, rfl⟩ := h
    refine ⟨none2.1, fun w hw => ?_⟩
    split at hw
    · cases hw
    · rw [List.mem_singleton] at hw
      subst hw
      exact hf
  split at h
  · split at h
    · rename_i hin
      exact hkid _ _ _ _ _ hin hun h
    · cases h
  split at h
  · unfold both at h
    split at h
    · cases h
    · rename_i p1 g1 h1
      split at h
      · cases h
      · rename_i p2 g2 h2
        simp only [Option.some.injEq, Prod.mk.injEq] at h
        obtain ⟨rfl, rfl⟩ := h
        have k1 := hkid _ _ _ _ _ hf hun h1
        have k2 : (∀ y ∈ p2, Q y.t ∧ in64 y.f = true ∧ ∀ x ∈ y.un, PX x) ∧ ∀ w ∈ g2, in64 w.n = true := by
          match hts : t.terms with
          | [] =>
            rw [hts] at h2
            simp [noA] at h2
            obtain ⟨rfl, rfl⟩ := h2
            exact none2
          | [a] =>
            rw [hts] at h2
            simp [noA] at h2
            obtain ⟨rfl, rfl⟩ := h2
            exact none2
          | a :: b :: r =>
            rw [hts] at h2
            have hb : b ∈ t.terms := by rw [hts]; simp
            exact IH b hb f tn un p2 g2 (hk t hq b hb) hf hun (by simpa [List.getD] using h2)
        refine ⟨fun y hy => ?_, fun w hw => ?_⟩
        · rcases List.mem_append.1 hy with hy | hy
          · exact k1.1 y hy
          · exact k2.1 y hy
        · rcases List.mem_append.1 hw with hw | hw
          · exact k1.2 w hw
          · exact k2.2 w hw
  split at h
  · simp only [Option.some.injEq, Prod.mk.injEq] at h
    exact stayed h.1.symm h.2.symm
  split at h
  · dsimp only at h
    split at h
    · cases h
    split at h
    · rename_i h8
      split at h
      · simp only [Option.some.injEq, Prod.mk.injEq] at h
        obtain ⟨rfl, rfl⟩ := h
        exact none2
      · refine hkid _ _ _ _ _ hf (fun x hxm => ?_) h
        rcases List.mem_append.1 hxm with hxm | hxm
        · exact hun x hxm
        · rw [List.mem_singleton] at hxm
          rw [hxm]
          exact hx t hq h8
    split at h
    · exact hkid _ _ _ _ _ hf hun h
    split at h
    · split at h
      · rename_i hin
        exact hkid _ _ _ _ _ hin hun h
      · cases h
    · simp only [Option.some.injEq, Prod.mk.injEq] at h
      exact stayed h.1.symm h.2.symm
  · simp only [Option.some.injEq, Prod.mk.injEq] at h
    obtain ⟨rfl, rfl⟩ := h
    exact none2
theorem stp_all (ev : Xp → Vl) {Q : Tr → Prop} {PX : Xp → Prop} (hk : ∀ t, Q t → ∀ y ∈ t.terms, Q y) (hx : ∀ t, Q t → t.op = 8 → PX (t.exprs.headD x0)) : ∀ {P q : List Pt} {g : List Fw}, (∀ y ∈ P, Q y.t ∧ in64 y.f = true ∧ ∀ x ∈ y.un, PX x) → stp ev P = some (q, g) → (∀ y ∈ q, Q y.t ∧ in64 y.f = true ∧ ∀ x ∈ y.un, PX x) ∧ ∀ w ∈ g, in64 w.n = true
  | [], q, g, h, hs => by
    simp [stp] at hs
    obtain ⟨rfl, rfl⟩ := hs
    exact ⟨(fun y hy => by cases hy), (fun y hy => by cases hy)⟩
  | p :: t, q, g, h, hs => by
    unfold stp at hs
    split at hs
    · cases hs
    have ht : ∀ y ∈ t, Q y.t ∧ in64 y.f = true ∧ ∀ x ∈ y.un, PX x := fun y hy => h y (by simp [hy])
    split at hs
    · exact stp_all ev hk hx ht hs
    unfold both at hs
    split at hs
    · cases hs
    rename_i p1 g1 h1
    split at hs
    · cases hs
    rename_i p2 g2 h2
    simp only [Option.some.injEq, Prod.mk.injEq] at hs
    obtain ⟨rfl, rfl⟩ := hs
    obtain ⟨r1, r2, r3⟩ := h p (by simp)
    have k1 := acq_all ev hk hx p.t p.f p.tn p.un p1 g1 r1 r2 r3 h1
    have k2 := stp_all ev hk hx ht h2
    refine ⟨fun y hy => ?_, fun w hw => ?_⟩
    · rcases List.mem_append.1 hy with hy | hy
      · exact k1.1 y hy
      · exact k2.1 y hy
    · rcases List.mem_append.1 hw with hw | hw
      · exact k1.2 w hw
      · exact k2.2 w hw
/-- A part on the other side. -/
def OpP (y z : Pt) : Prop := y.f = -z.f ∧ z.tn = !y.tn ∧ y.un = z.un ∧ y.t = z.t
def OpF (y z : Fw) : Prop := y.coin = z.coin ∧ y.n = -z.n
/-- Two lists, one by one. -/
def Twos {α : Type} (R : α → α → Prop) (a b : List α) : Prop := a.length = b.length ∧ ∀ (i : Nat) x y, a[i]? = some x → b[i]? = some y → R x y
theorem Twos.nil {α : Type} (R : α → α → Prop) : Twos R [] [] := ⟨rfl, fun i x y h => by simp at h⟩
theorem Twos.one {α : Type} {R : α → α → Prop} {x y : α} (h : R x y) : Twos R [x] [y] := ⟨rfl, fun i a b ha hb => by
  match i, ha, hb with
  | 0, ha, hb => simp at ha hb; subst ha hb; exact h⟩
theorem Twos.app {α : Type} {R : α → α → Prop} {a b c d : List α} (h : Twos R a b) (k : Twos R c d) : Twos R (a ++ c) (b ++ d) := by
  refine ⟨by simp [h.1, k.1], fun i x y hx hy => ?_⟩
  by_cases hi : i < a.length
  · rw [List.getElem?_append_left hi] at hx
    rw [List.getElem?_append_left (by rw [← h.1]; exact hi)] at hy
    exact h.2 i x y hx hy
  · rw [List.getElem?_append_right (by omega)] at hx
    rw [List.getElem?_append_right (by rw [← h.1]; omega)] at hy
    rw [← h.1] at hy
    exact k.2 _ x y hx hy
theorem Twos.cons {α : Type} {R : α → α → Prop} {x y : α} {a b : List α} (h : Twos R (x :: a) (y :: b)) : R x y ∧ Twos R a b := ⟨h.2 0 x y rfl rfl, by simpa using h.1, fun i u v hu hv => h.2 (i + 1) u v (by simpa using hu) (by simpa using hv)⟩
/-- What comes of a contract that is given is what comes of it, on the other side. -/
theorem acq_opp (ev : Xp → Vl) (t : Tr) : ∀ f tn un p g q h, t.acq ev f tn un = some (p, g) → t.acq ev (-f) (!tn) un = some (q, h) → Twos OpP p q ∧ Twos OpF g h := by
  induction t using Tr.ind with
  | h t IH =>
  intro f tn un p g q h ha hb
  rw [Tr.acq_eq] at ha hb
  have none2 : Twos OpP [] [] ∧ Twos OpF [] [] := ⟨Twos.nil _, Twos.nil _⟩
  have hkid : ∀ f tn un p g q h, (t.terms.map (Tr.acq ev)).headD noA f tn un = some (p, g) → (t.terms.map (Tr.acq ev)).headD noA (-f) (!tn) un = some (q, h) → Twos OpP p q ∧ Twos OpF g h := fun f tn un p g q h h1 h2 => by
    cases hts : t.terms with
    | nil =>
      rw [hts] at h1 h2
      simp [noA] at h1 h2
      obtain ⟨rfl, rfl⟩ := h1
      obtain ⟨rfl, rfl⟩ := h2
      exact none2
    | cons a r =>
      rw [hts] at h1 h2
      exact IH a (by rw [hts]; simp) f tn un p g q h h1 h2
  have hnext : ∀ f tn un p g q h, (t.terms.map (Tr.acq ev)).getD 1 noA f tn un = some (p, g) → (t.terms.map (Tr.acq ev)).getD 1 noA (-f) (!tn) un = some (q, h) → Twos OpP p q ∧ Twos OpF g h := fun f tn un p g q h h1 h2 => by
    match hts : t.terms with
    | [] =>
      rw [hts] at h1 h2
      simp [noA] at h1 h2
      obtain ⟨rfl, rfl⟩ := h1
      obtain ⟨rfl, rfl⟩ := h2
      exact none2
    | [a] =>
      rw [hts] at h1 h2
      simp [noA] at h1 h2
      obtain ⟨rfl, rfl⟩ := h1
      obtain ⟨rfl, rfl⟩ := h2
      exact none2
    | a :: b :: r =>
      rw [hts] at h1 h2
      exact IH b (by rw [hts]; simp) f tn un p g q h (by simpa [List.getD] using h1) (by simpa [List.getD] using h2)
  have hst : Twos OpP [⟨f, tn, un, t⟩] [⟨-f, !tn, un, t⟩] := Twos.one ⟨by simp, rfl, rfl, rfl⟩
  unfold acqN at ha hb
  by_cases o2 : t.op = 2
  · rw [if_pos o2] at ha hb
    simp only [Option.some.injEq, Prod.mk.injEq] at ha hb
    obtain ⟨rfl, rfl⟩ := ha
    obtain ⟨rfl, rfl⟩ := hb
    refine ⟨Twos.nil _, ?_⟩
    by_cases hf : f = 0
    · subst hf; simp; exact Twos.nil _
    · rw [if_neg hf, if_neg (by omega)]
      exact Twos.one ⟨rfl, by simp⟩
  rw [if_neg o2] at ha hb
  by_cases o3 : t.op = 3
  · rw [if_pos o3] at ha hb
    split at ha
    · split at hb
      · have e : (-f : Int) = -(f) := rfl
        have := hkid (-f) (!tn) un p g q h ha (by simpa using hb)
        exact this
      · cases hb
    · cases ha
  rw [if_neg o3] at ha hb
  by_cases o4 : t.op = 4
  · rw [if_pos o4] at ha hb
    unfold both at ha hb
    split at ha
    · cases ha
    rename_i p1 g1 h1
    split at ha
    · cases ha
    rename_i p2 g2 h2
    split at hb
    · cases hb
    rename_i q1 k1 h3
    split at hb
    · cases hb
    rename_i q2 k2 h4
    simp only [Option.some.injEq, Prod.mk.injEq] at ha hb
    obtain ⟨rfl, rfl⟩ := ha
    obtain ⟨rfl, rfl⟩ := hb
    have r1 := hkid _ _ _ _ _ _ _ h1 h3
    have r2 := hnext _ _ _ _ _ _ _ h2 h4
    exact ⟨r1.1.app r2.1, r1.2.app r2.2⟩
  rw [if_neg o4] at ha hb
  by_cases o5 : t.op = 5 ∨ t.op = 9
  · rw [if_pos o5] at ha hb
    simp only [Option.some.injEq, Prod.mk.injEq] at ha hb
    obtain ⟨rfl, rfl⟩ := ha
    obtain ⟨rfl, rfl⟩ := hb
    exact ⟨hst, Twos.nil _⟩
  rw [if_neg o5] at ha hb
  by_cases o6 : t.op = 6 ∨ t.op = 7 ∨ t.op = 8
  · rw [if_pos o6] at ha hb
    dsimp only at ha hb
    generalize t.exprs.headD x0 = X at ha hb
    by_cases k3 : (ev X).kind = 3
    · rw [if_pos k3] at ha; cases ha
    rw [if_neg k3] at ha hb
    by_cases o8 : t.op = 8
    · rw [if_pos o8] at ha hb
      by_cases ky : (ev X).kind = 2 ∧ (ev X).b = true
      · rw [if_pos ky] at ha hb
        simp only [Option.some.injEq, Prod.mk.injEq] at ha hb
        obtain ⟨rfl, rfl⟩ := ha
        obtain ⟨rfl, rfl⟩ := hb
        exact none2
      · rw [if_neg ky] at ha hb
        exact hkid _ _ _ _ _ _ _ ha hb
    rw [if_neg o8] at ha hb
    by_cases ky : (ev X).kind = 2 ∧ (ev X).b = true
    · rw [if_pos ky] at ha hb
      exact hkid _ _ _ _ _ _ _ ha hb
    rw [if_neg ky] at ha hb
    by_cases k1 : (ev X).kind = 1
    · rw [if_pos k1] at ha hb
      split at ha
      · split at hb
        · rw [Int.neg_mul] at hb
          exact hkid _ _ _ _ _ _ _ ha hb
        · cases hb
      · cases ha
    · rw [if_neg k1] at ha hb
      simp only [Option.some.injEq, Prod.mk.injEq] at ha hb
      obtain ⟨rfl, rfl⟩ := ha
      obtain ⟨rfl, rfl⟩ := hb
      exact ⟨hst, Twos.nil _⟩
  · rw [if_neg o6] at ha hb
    simp only [Option.some.injEq, Prod.mk.injEq] at ha hb
    obtain ⟨rfl, rfl⟩ := ha
    obtain ⟨rfl, rfl⟩ := hb
    exact none2
theorem stp_opp (ev : Xp → Vl) : ∀ {P Q p q : List Pt} {g h : List Fw}, Twos OpP P Q → stp ev P = some (p, g) → stp ev Q = some (q, h) → Twos OpP p q ∧ Twos OpF g h
  | [], [], p, q, g, h, ho, ha, hb => by
    simp [stp] at ha hb
    obtain ⟨rfl, rfl⟩ := ha
    obtain ⟨rfl, rfl⟩ := hb
    exact ⟨Twos.nil _, Twos.nil _⟩
  | [], y :: t, p, q, g, h, ho, ha, hb => by have := ho.1; simp at this
  | y :: t, [], p, q, g, h, ho, ha, hb => by have := ho.1; simp at this
  | x :: s, y :: t, p, q, g, h, ho, ha, hb => by
    obtain ⟨⟨o1, o2, o3, o4⟩, hr⟩ := ho.cons
    unfold stp at ha hb
    rw [← o3] at hb
    split at ha
    · cases ha
    rename_i hB
    rw [if_neg hB] at hb
    split at ha
    · rename_i hI
      rw [if_pos hI] at hb
      exact stp_opp ev hr ha hb
    rename_i hI
    rw [if_neg hI] at hb
    unfold both at ha hb
    split at ha
    · cases ha
    rename_i p1 g1 h1
    split at ha
    · cases ha
    rename_i p2 g2 h2
    split at hb
    · cases hb
    rename_i q1 k1 h3
    split at hb
    · cases hb
    rename_i q2 k2 h4
    simp only [Option.some.injEq, Prod.mk.injEq] at ha hb
    obtain ⟨rfl, rfl⟩ := ha
    obtain ⟨rfl, rfl⟩ := hb
    rw [← o4, o2, show y.f = -x.f from by omega] at h3
    have r1 := acq_opp ev x.t x.f x.tn x.un p1 g1 q1 k1 h1 h3
    have r2 := stp_opp ev hr h2 h4
    exact ⟨r1.1.app r2.1, r1.2.app r2.2⟩
end Go.Proofs.Ythhimllddgfddaa
namespace Go.Proofs.Ythhimllddgfddaa
open Go.RowKit Go.PlainAid Go.Sort
set_option linter.unusedVariables false
set_option linter.unusedSimpArgs false
theorem floor_neg (q r y : Nat) (h0 : 0 < r) (hr : r < y) : (-((y * q + r : Nat) : Int)) / (y : Int) = -((q + 1 : Nat) : Int) := by
  refine ((Int.ediv_emod_unique (r := (y : Int) - r) (by omega)).2 ⟨?_, by omega, by omega⟩).1
  rw [Int.mul_neg, Int.natCast_add q 1, Int.mul_add, Int.natCast_add, Int.natCast_mul]
  omega
theorem floor_even (q y : Nat) (hy : 0 < y) : (-((y * q : Nat) : Int)) / (y : Int) = -(q : Int) := by
  refine ((Int.ediv_emod_unique (r := 0) (by omega)).2 ⟨?_, by omega, by omega⟩).1
  rw [Int.mul_neg, Int.natCast_mul]
  omega
/-- Rounded down is the floor. -/
theorem rq_floor (p c : Int) (hc : c ≠ 0) : Nu.rq p c 1 = p.fdiv c := by
  have key : ∀ (P : Int) (y : Nat) (neg : Bool), 0 < y → (P < 0 → neg = true) → (0 < P → neg = false) → Nu.sgn neg (Nu.upN (P.natAbs / y) (P.natAbs % y) y neg 1) = P / (y : Int) := by
    intro P y neg hy h1 h2
    have hd := Nat.div_add_mod P.natAbs y
    have hlt := Nat.mod_lt P.natAbs hy
    generalize P.natAbs / y = q at *
    generalize P.natAbs % y = r at *
    unfold Nu.sgn Nu.upN Nu.awayB
    rw [if_pos rfl]
    rcases Int.lt_trichotomy P 0 with h | h | h
    · rw [h1 h]
      have hP : P = -((y * q + r : Nat) : Int) := by omega
      rcases Nat.eq_zero_or_pos r with h0 | h0
      · subst h0
        rw [hP, Nat.add_zero, floor_even q y hy]
        simp
      · rw [hP, floor_neg q r y h0 hlt]
        have : r ≠ 0 := by omega
        simp [this]
    · subst h
      have hz : y * q + r = 0 := by simpa using hd
      have hr0 : r = 0 := by omega
      have hq0 : q = 0 := by
        have : y * q = 0 := by omega
        rcases Nat.mul_eq_zero.1 this with h | h <;> omega
      subst hr0 hq0
      cases neg <;> simp
    · rw [h2 h]
      have hP : P = ((y * q + r : Nat) : Int) := by omega
      rw [hP]
      have : ((y * q + r : Nat) : Int) / (y : Int) = (((y * q + r) / y : Nat) : Int) := by rw [Int.natCast_ediv]
      rw [this, Nat.mul_add_div hy, Nat.div_eq_of_lt hlt]
      simp
  unfold Nu.rq
  rcases Int.lt_or_gt_of_ne hc with h | h
  · have e : p.fdiv c = (-p) / ((c.natAbs : Nat) : Int) := by
      have : ((c.natAbs : Nat) : Int) = -c := by omega
      rw [this, ← Int.fdiv_eq_ediv_of_nonneg (-p) (by omega), Int.neg_fdiv_neg]
    rw [e, ← key (-p) c.natAbs (decide (p < 0) != decide (c < 0)) (by omega) (by intro h'; simp [h]; omega) (by intro h'; simp [h]; omega), Int.natAbs_neg]
  · have e : p.fdiv c = p / ((c.natAbs : Nat) : Int) := by
      have : ((c.natAbs : Nat) : Int) = c := by omega
      rw [this, Int.fdiv_eq_ediv_of_nonneg p (by omega)]
    rw [e, ← key p c.natAbs (decide (p < 0) != decide (c < 0)) (by omega) (by intro h'; simp; omega) (by intro h'; simp; omega)]
/-- A quotient, rounded down. -/
def divO (a b : Int) : Option Int := if b = 0 then none else okI (a.fdiv b)
theorem givenMD {a b : Int} {w w' : World} {e : Ending} (h : Nu.GivesMD a 1 b 1 w e w') : e = .returned (.tuple #[.int .i64 ((divO a b).getD 0), .bool (divO a b).isSome]) ∧ Below w.heap.size w w' := by
  obtain ⟨n, ok, h1, h2, h3⟩ := h
  refine ⟨?_, h3⟩
  unfold Nu.MD at h2
  unfold divO
  by_cases hb : b = 0
  · rw [if_pos (.inl hb)] at h2
    rw [if_pos hb, h1, h2.1, h2.2]
    rfl
  · rw [if_neg (by rintro (h | h | h) <;> omega), Int.mul_one, rq_floor a b hb] at h2
    rw [if_neg hb, h1, (ans_okI h2).1, (ans_okI h2).2]
theorem run_min (a b : Int) (ats : Array TypeId) (ty : TypeId) (W : World) : (Builtin.min_ ats ty #[.int .i64 a, .int .i64 b]).run Try.prog W = .ok (.int .i64 (min a b)) W := by
  by_cases h : a < b
  · have h' : ¬ b < a := by omega
    simp [Builtin.min_, Builtin.min2, go_sem, h, h']
    omega
  · by_cases h' : b < a
    · simp [Builtin.min_, Builtin.min2, go_sem, h, h']
      omega
    · have : a = b := by omega
      simp [Builtin.min_, Builtin.min2, go_sem, this]
theorem run_max (a b : Int) (ats : Array TypeId) (ty : TypeId) (W : World) : (Builtin.max_ ats ty #[.int .i64 a, .int .i64 b]).run Try.prog W = .ok (.int .i64 (max a b)) W := by
  by_cases h : a < b
  · have h' : ¬ b < a := by omega
    simp [Builtin.max_, Builtin.max2, go_sem, h, h']
    omega
  · by_cases h' : b < a
    · simp [Builtin.max_, Builtin.max2, go_sem, h, h']
      omega
    · have : a = b := by omega
      simp [Builtin.max_, Builtin.max2, go_sem, this]
end Go.Proofs.Ythhimllddgfddaa
namespace Go.Proofs.Ythhimllddgfddaa
open Go.RowKit Go.PlainAid Go.Sort
set_option linter.unusedVariables false
set_option linter.unusedSimpArgs false
def Xp.rng : Xp → Prop
  | .mk _ n _ l => InR n ∧ rngs l
where rngs : List Xp → Prop
  | [] => True
  | x :: t => x.rng ∧ rngs t
theorem rngs_all (l : List Xp) : Xp.rng.rngs l ↔ ∀ y ∈ l, y.rng := by
  induction l with
  | nil => simp [Xp.rng.rngs]
  | cons x t ih => simp [Xp.rng.rngs, ih]
theorem Xp.rng_eq (x : Xp) : x.rng ↔ InR x.n ∧ ∀ y ∈ x.args, y.rng := by
  cases x with
  | mk o n s l => show (_ ∧ Xp.rng.rngs l) ↔ _; rw [rngs_all]; exact Iff.rfl
end Go.Proofs.Ythhimllddgfddaa
namespace Go.Proofs.Ythhimllddgfddaa
open Go.RowKit Go.PlainAid Go.Sort
set_option linter.unusedVariables false
set_option linter.unusedSimpArgs false
set_option maxRecDepth 100000 in
set_option maxHeartbeats 4000000 in
theorem number_no (n : Int) (w : World) : Calls Try.prog 73 #[.int .i64 n, .bool false] w fun e w' => e = .returned (vlV brkV) ∧ Below w.heap.size w w' := by
  obtain ⟨⟨r0, r1, r2⟩, p0, p1, p2⟩ := three_zero w (.int .i64 0) (.int .i64 0) (.bool false) 99
  have HF := Lib.hid (three_made (.int .i64 3) (.int .i64 0) (.bool false) 99 w)
  go_enter Try.func73, Try.ntmps73
  go_wp2_with fail
  clear r0 r1 r2 p0 p1 p2
  obtain ⟨W, hW⟩ : ∃ X, w.alloc (.cells #[.int .i64 3, .int .i64 0, .bool false] 99) = X := ⟨_, rfl⟩
  obtain ⟨k, b, s⟩ := HF.out W hW
  rw [hW]
  obtain ⟨d0, d1, d2⟩ := trio b
  exact bodyPost_ret (v := vlV brkV) (by simp [results, Try.results73, go_sem, d0, d1, d2, brkV]) rfl ⟨rfl, k⟩
def outV : Option Int → Vl
  | none => brkV
  | some v => numV v
theorem okV_out (z : Int) : okV z = outV (okI z) := by
  unfold okV okI
  split <;> rfl
theorem divV_out (a b : Int) : (if b = 0 then brkV else okV (a.fdiv b)) = outV (divO a b) := by
  unfold divO
  split
  · rfl
  · exact okV_out _
set_option maxRecDepth 100000 in
set_option maxHeartbeats 4000000 in
theorem worked_5 (a b : Int) (ha : InR a) (hb : InR b) (w : World) : Calls Try.prog 78 #[.int .i64 5, .int .i64 a, .int .i64 b] w fun e w' => e = .returned (vlV (wkV 5 a b)) ∧ Below w.heap.size w w' := by
  obtain ⟨r, hr⟩ : ∃ r, r = okI (a + b) := ⟨_, rfl⟩
  have HT : Hid (wkV 5 a b = outV r) := Lib.hid (by rw [hr]; exact okV_out _)
  have CN : Hid (∀ W, Calls Try.prog 82 #[.int .i64 a, .int .i64 b] W fun e w' => e = .returned (.tuple #[.int .i64 (r.getD 0), .bool r.isSome]) ∧ Below W.heap.size W w') := Lib.hid fun W => by
    rw [hr]
    exact (Nu.add_num a b ha.1 ha.2 hb.1 hb.2 W).mono fun e w' k => given k
  have CY : Hid (∀ n W, Calls Try.prog 73 #[.int .i64 n, .bool true] W fun e w' => e = .returned (.agg #[.int .i64 1, .int .i64 n, .bool false]) ∧ Below W.heap.size W w') := Lib.hid fun n W => number_yes n W
  have CO : Hid (∀ n W, Calls Try.prog 73 #[.int .i64 n, .bool false] W fun e w' => e = .returned (.agg #[.int .i64 3, .int .i64 0, .bool false]) ∧ Below W.heap.size W w') := Lib.hid fun n W => number_no n W
  have HF := Lib.hid (three_made (.int .i64 0) (.int .i64 0) (.bool false) 99 w)
  clear hr ha hb
  go_enter Try.func78, Try.ntmps78
  go_upto_region 1 with fail
  obtain ⟨W, hW⟩ : ∃ X, w.alloc (.cells #[.int .i64 0, .int .i64 0, .bool false] 99) = X := ⟨_, rfl⟩
  obtain ⟨k, b', s⟩ := HF.out W hW
  obtain ⟨z, hz⟩ : ∃ z, z = w.heap.size := ⟨_, rfl⟩
  rw [hW, ← hz]
  rw [← hz] at b'
  have HB := Lib.hid k
  have HX := Lib.hid b'
  have HZ := Lib.hid hz
  clear hW k b' s HF hz
  cases r with
  | none =>
    have CN2 : Hid (∀ W, Calls Try.prog 82 #[.int .i64 a, .int .i64 b] W fun e w' => e = .returned (.tuple #[.int .i64 0, .bool false]) ∧ Below W.heap.size W w') := CN
    clear CN
    go_wp2_with (first | (go_at_call 82; (with_reducible refine (CN2.out _).mono ?_); rintro e w3 ⟨rfl, hb⟩; have HB3 := Lib.hid hb; clear hb) | (go_at_call 73; (with_reducible refine (CO.out 0 _).mono ?_); rintro e w4 ⟨rfl, hb⟩; have HB4 := Lib.hid (below_mono HB3.out hb (Nat.le_refl _)); have HX4 := Lib.hid ((HB4.out.block _ (lt_of_heap HX.out)).trans HX.out); obtain ⟨n0', n1', n2'⟩ := trio HX4.out; have p0 : w4.frozen? ⟨z, 0, none⟩ = false := free_blk HX4.out 0; have p1 : w4.frozen? ⟨z, 1, none⟩ = false := free_blk HX4.out 1; have p2 : w4.frozen? ⟨z, 2, none⟩ = false := free_blk HX4.out 2; clear hb))
    obtain ⟨W10, hW10⟩ : ∃ X, (((w4.setCell ⟨z, 0, none⟩ (.int .i64 3)).setCell ⟨z, 1, none⟩ (.int .i64 0)).setCell ⟨z, 2, none⟩ (.bool false)) = X := ⟨_, rfl⟩
    obtain ⟨k9, _, _, x9⟩ := three_set w4 z (.int .i64 3) (.int .i64 0) (.bool false) _ _ ⟨_, _, _, rfl⟩ HX4.out W10 hW10
    rw [hW10]
    clear n0' n1' n2' p0 p1 p2
    obtain ⟨d0, d1, d2⟩ := trio x9
    exact bodyPost_ret (v := .agg #[.int .i64 3, .int .i64 0, .bool false]) (by simp [results, Try.results78, go_sem, d0, d1, d2]) rfl ⟨by rw [HT.out]; rfl, (HB.out.trans (HB4.out.mono HB.out.size)).trans (k9.mono (by have := HZ.out; omega))⟩
  | some v =>
    have CN2 : Hid (∀ W, Calls Try.prog 82 #[.int .i64 a, .int .i64 b] W fun e w' => e = .returned (.tuple #[.int .i64 v, .bool true]) ∧ Below W.heap.size W w') := CN
    clear CN
    go_wp2_with (first | (go_at_call 82; (with_reducible refine (CN2.out _).mono ?_); rintro e w3 ⟨rfl, hb⟩; have HB3 := Lib.hid hb; clear hb) | (go_at_call 73; (with_reducible refine (CY.out v _).mono ?_); rintro e w4 ⟨rfl, hb⟩; have HB4 := Lib.hid (below_mono HB3.out hb (Nat.le_refl _)); have HX4 := Lib.hid ((HB4.out.block _ (lt_of_heap HX.out)).trans HX.out); obtain ⟨n0', n1', n2'⟩ := trio HX4.out; have p0 : w4.frozen? ⟨z, 0, none⟩ = false := free_blk HX4.out 0; have p1 : w4.frozen? ⟨z, 1, none⟩ = false := free_blk HX4.out 1; have p2 : w4.frozen? ⟨z, 2, none⟩ = false := free_blk HX4.out 2; clear hb))
    obtain ⟨W10, hW10⟩ : ∃ X, (((w4.setCell ⟨z, 0, none⟩ (.int .i64 1)).setCell ⟨z, 1, none⟩ (.int .i64 v)).setCell ⟨z, 2, none⟩ (.bool false)) = X := ⟨_, rfl⟩
    obtain ⟨k9, _, _, x9⟩ := three_set w4 z (.int .i64 1) (.int .i64 v) (.bool false) _ _ ⟨_, _, _, rfl⟩ HX4.out W10 hW10
    rw [hW10]
    clear n0' n1' n2' p0 p1 p2
    obtain ⟨d0, d1, d2⟩ := trio x9
    exact bodyPost_ret (v := .agg #[.int .i64 1, .int .i64 v, .bool false]) (by simp [results, Try.results78, go_sem, d0, d1, d2]) rfl ⟨by rw [HT.out]; rfl, (HB.out.trans (HB4.out.mono HB.out.size)).trans (k9.mono (by have := HZ.out; omega))⟩
set_option maxRecDepth 100000 in
set_option maxHeartbeats 4000000 in
theorem worked_6 (a b : Int) (ha : InR a) (hb : InR b) (w : World) : Calls Try.prog 78 #[.int .i64 6, .int .i64 a, .int .i64 b] w fun e w' => e = .returned (vlV (wkV 6 a b)) ∧ Below w.heap.size w w' := by
  obtain ⟨r, hr⟩ : ∃ r, r = okI (a - b) := ⟨_, rfl⟩
  have HT : Hid (wkV 6 a b = outV r) := Lib.hid (by rw [hr]; exact okV_out _)
  have CN : Hid (∀ W, Calls Try.prog 52 #[.int .i64 a, .int .i64 b] W fun e w' => e = .returned (.tuple #[.int .i64 (r.getD 0), .bool r.isSome]) ∧ Below W.heap.size W w') := Lib.hid fun W => by
    rw [hr]
    exact (Nu.sub_num a b ha.1 ha.2 hb.1 hb.2 W).mono fun e w' k => given k
  have CY : Hid (∀ n W, Calls Try.prog 73 #[.int .i64 n, .bool true] W fun e w' => e = .returned (.agg #[.int .i64 1, .int .i64 n, .bool false]) ∧ Below W.heap.size W w') := Lib.hid fun n W => number_yes n W
  have CO : Hid (∀ n W, Calls Try.prog 73 #[.int .i64 n, .bool false] W fun e w' => e = .returned (.agg #[.int .i64 3, .int .i64 0, .bool false]) ∧ Below W.heap.size W w') := Lib.hid fun n W => number_no n W
  have HF := Lib.hid (three_made (.int .i64 0) (.int .i64 0) (.bool false) 99 w)
  clear hr ha hb
  go_enter Try.func78, Try.ntmps78
  go_upto_region 1 with fail
  obtain ⟨W, hW⟩ : ∃ X, w.alloc (.cells #[.int .i64 0, .int .i64 0, .bool false] 99) = X := ⟨_, rfl⟩
  obtain ⟨k, b', s⟩ := HF.out W hW
  obtain ⟨z, hz⟩ : ∃ z, z = w.heap.size := ⟨_, rfl⟩
  rw [hW, ← hz]
  rw [← hz] at b'
  have HB := Lib.hid k
  have HX := Lib.hid b'
  have HZ := Lib.hid hz
  clear hW k b' s HF hz
  cases r with
  | none =>
    have CN2 : Hid (∀ W, Calls Try.prog 52 #[.int .i64 a, .int .i64 b] W fun e w' => e = .returned (.tuple #[.int .i64 0, .bool false]) ∧ Below W.heap.size W w') := CN
    clear CN
    go_wp2_with (first | (go_at_call 52; (with_reducible refine (CN2.out _).mono ?_); rintro e w3 ⟨rfl, hb⟩; have HB3 := Lib.hid hb; clear hb) | (go_at_call 73; (with_reducible refine (CO.out 0 _).mono ?_); rintro e w4 ⟨rfl, hb⟩; have HB4 := Lib.hid (below_mono HB3.out hb (Nat.le_refl _)); have HX4 := Lib.hid ((HB4.out.block _ (lt_of_heap HX.out)).trans HX.out); obtain ⟨n0', n1', n2'⟩ := trio HX4.out; have p0 : w4.frozen? ⟨z, 0, none⟩ = false := free_blk HX4.out 0; have p1 : w4.frozen? ⟨z, 1, none⟩ = false := free_blk HX4.out 1; have p2 : w4.frozen? ⟨z, 2, none⟩ = false := free_blk HX4.out 2; clear hb))
    obtain ⟨W10, hW10⟩ : ∃ X, (((w4.setCell ⟨z, 0, none⟩ (.int .i64 3)).setCell ⟨z, 1, none⟩ (.int .i64 0)).setCell ⟨z, 2, none⟩ (.bool false)) = X := ⟨_, rfl⟩
    obtain ⟨k9, _, _, x9⟩ := three_set w4 z (.int .i64 3) (.int .i64 0) (.bool false) _ _ ⟨_, _, _, rfl⟩ HX4.out W10 hW10
    rw [hW10]
    clear n0' n1' n2' p0 p1 p2
    obtain ⟨d0, d1, d2⟩ := trio x9
    exact bodyPost_ret (v := .agg #[.int .i64 3, .int .i64 0, .bool false]) (by simp [results, Try.results78, go_sem, d0, d1, d2]) rfl ⟨by rw [HT.out]; rfl, (HB.out.trans (HB4.out.mono HB.out.size)).trans (k9.mono (by have := HZ.out; omega))⟩
  | some v =>
    have CN2 : Hid (∀ W, Calls Try.prog 52 #[.int .i64 a, .int .i64 b] W fun e w' => e = .returned (.tuple #[.int .i64 v, .bool true]) ∧ Below W.heap.size W w') := CN
    clear CN
    go_wp2_with (first | (go_at_call 52; (with_reducible refine (CN2.out _).mono ?_); rintro e w3 ⟨rfl, hb⟩; have HB3 := Lib.hid hb; clear hb) | (go_at_call 73; (with_reducible refine (CY.out v _).mono ?_); rintro e w4 ⟨rfl, hb⟩; have HB4 := Lib.hid (below_mono HB3.out hb (Nat.le_refl _)); have HX4 := Lib.hid ((HB4.out.block _ (lt_of_heap HX.out)).trans HX.out); obtain ⟨n0', n1', n2'⟩ := trio HX4.out; have p0 : w4.frozen? ⟨z, 0, none⟩ = false := free_blk HX4.out 0; have p1 : w4.frozen? ⟨z, 1, none⟩ = false := free_blk HX4.out 1; have p2 : w4.frozen? ⟨z, 2, none⟩ = false := free_blk HX4.out 2; clear hb))
    obtain ⟨W10, hW10⟩ : ∃ X, (((w4.setCell ⟨z, 0, none⟩ (.int .i64 1)).setCell ⟨z, 1, none⟩ (.int .i64 v)).setCell ⟨z, 2, none⟩ (.bool false)) = X := ⟨_, rfl⟩
    obtain ⟨k9, _, _, x9⟩ := three_set w4 z (.int .i64 1) (.int .i64 v) (.bool false) _ _ ⟨_, _, _, rfl⟩ HX4.out W10 hW10
    rw [hW10]
    clear n0' n1' n2' p0 p1 p2
    obtain ⟨d0, d1, d2⟩ := trio x9
    exact bodyPost_ret (v := .agg #[.int .i64 1, .int .i64 v, .bool false]) (by simp [results, Try.results78, go_sem, d0, d1, d2]) rfl ⟨by rw [HT.out]; rfl, (HB.out.trans (HB4.out.mono HB.out.size)).trans (k9.mono (by have := HZ.out; omega))⟩
set_option maxRecDepth 100000 in
set_option maxHeartbeats 4000000 in
theorem worked_7 (a b : Int) (ha : InR a) (hb : InR b) (w : World) : Calls Try.prog 78 #[.int .i64 7, .int .i64 a, .int .i64 b] w fun e w' => e = .returned (vlV (wkV 7 a b)) ∧ Below w.heap.size w w' := by
  obtain ⟨r, hr⟩ : ∃ r, r = okI (a * b) := ⟨_, rfl⟩
  have HT : Hid (wkV 7 a b = outV r) := Lib.hid (by rw [hr]; exact okV_out _)
  have CN : Hid (∀ W, Calls Try.prog 54 #[.int .i64 a, .int .i64 b] W fun e w' => e = .returned (.tuple #[.int .i64 (r.getD 0), .bool r.isSome]) ∧ Below W.heap.size W w') := Lib.hid fun W => by
    rw [hr]
    exact (Nu.mul_num a b ha.1 ha.2 hb.1 hb.2 W).mono fun e w' k => given k
  have CY : Hid (∀ n W, Calls Try.prog 73 #[.int .i64 n, .bool true] W fun e w' => e = .returned (.agg #[.int .i64 1, .int .i64 n, .bool false]) ∧ Below W.heap.size W w') := Lib.hid fun n W => number_yes n W
  have CO : Hid (∀ n W, Calls Try.prog 73 #[.int .i64 n, .bool false] W fun e w' => e = .returned (.agg #[.int .i64 3, .int .i64 0, .bool false]) ∧ Below W.heap.size W w') := Lib.hid fun n W => number_no n W
  have HF := Lib.hid (three_made (.int .i64 0) (.int .i64 0) (.bool false) 99 w)
  clear hr ha hb
  go_enter Try.func78, Try.ntmps78
  go_upto_region 1 with fail
  obtain ⟨W, hW⟩ : ∃ X, w.alloc (.cells #[.int .i64 0, .int .i64 0, .bool false] 99) = X := ⟨_, rfl⟩
  obtain ⟨k, b', s⟩ := HF.out W hW
  obtain ⟨z, hz⟩ : ∃ z, z = w.heap.size := ⟨_, rfl⟩
  rw [hW, ← hz]
  rw [← hz] at b'
  have HB := Lib.hid k
  have HX := Lib.hid b'
  have HZ := Lib.hid hz
  clear hW k b' s HF hz
  cases r with
  | none =>
    have CN2 : Hid (∀ W, Calls Try.prog 54 #[.int .i64 a, .int .i64 b] W fun e w' => e = .returned (.tuple #[.int .i64 0, .bool false]) ∧ Below W.heap.size W w') := CN
    clear CN
    go_wp2_with (first | (go_at_call 54; (with_reducible refine (CN2.out _).mono ?_); rintro e w3 ⟨rfl, hb⟩; have HB3 := Lib.hid hb; clear hb) | (go_at_call 73; (with_reducible refine (CO.out 0 _).mono ?_); rintro e w4 ⟨rfl, hb⟩; have HB4 := Lib.hid (below_mono HB3.out hb (Nat.le_refl _)); have HX4 := Lib.hid ((HB4.out.block _ (lt_of_heap HX.out)).trans HX.out); obtain ⟨n0', n1', n2'⟩ := trio HX4.out; have p0 : w4.frozen? ⟨z, 0, none⟩ = false := free_blk HX4.out 0; have p1 : w4.frozen? ⟨z, 1, none⟩ = false := free_blk HX4.out 1; have p2 : w4.frozen? ⟨z, 2, none⟩ = false := free_blk HX4.out 2; clear hb))
    obtain ⟨W10, hW10⟩ : ∃ X, (((w4.setCell ⟨z, 0, none⟩ (.int .i64 3)).setCell ⟨z, 1, none⟩ (.int .i64 0)).setCell ⟨z, 2, none⟩ (.bool false)) = X := ⟨_, rfl⟩
    obtain ⟨k9, _, _, x9⟩ := three_set w4 z (.int .i64 3) (.int .i64 0) (.bool false) _ _ ⟨_, _, _, rfl⟩ HX4.out W10 hW10
    rw [hW10]
    clear n0' n1' n2' p0 p1 p2
    obtain ⟨d0, d1, d2⟩ := trio x9
    exact bodyPost_ret (v := .agg #[.int .i64 3, .int .i64 0, .bool false]) (by simp [results, Try.results78, go_sem, d0, d1, d2]) rfl ⟨by rw [HT.out]; rfl, (HB.out.trans (HB4.out.mono HB.out.size)).trans (k9.mono (by have := HZ.out; omega))⟩
  | some v =>
    have CN2 : Hid (∀ W, Calls Try.prog 54 #[.int .i64 a, .int .i64 b] W fun e w' => e = .returned (.tuple #[.int .i64 v, .bool true]) ∧ Below W.heap.size W w') := CN
    clear CN
    go_wp2_with (first | (go_at_call 54; (with_reducible refine (CN2.out _).mono ?_); rintro e w3 ⟨rfl, hb⟩; have HB3 := Lib.hid hb; clear hb) | (go_at_call 73; (with_reducible refine (CY.out v _).mono ?_); rintro e w4 ⟨rfl, hb⟩; have HB4 := Lib.hid (below_mono HB3.out hb (Nat.le_refl _)); have HX4 := Lib.hid ((HB4.out.block _ (lt_of_heap HX.out)).trans HX.out); obtain ⟨n0', n1', n2'⟩ := trio HX4.out; have p0 : w4.frozen? ⟨z, 0, none⟩ = false := free_blk HX4.out 0; have p1 : w4.frozen? ⟨z, 1, none⟩ = false := free_blk HX4.out 1; have p2 : w4.frozen? ⟨z, 2, none⟩ = false := free_blk HX4.out 2; clear hb))
    obtain ⟨W10, hW10⟩ : ∃ X, (((w4.setCell ⟨z, 0, none⟩ (.int .i64 1)).setCell ⟨z, 1, none⟩ (.int .i64 v)).setCell ⟨z, 2, none⟩ (.bool false)) = X := ⟨_, rfl⟩
    obtain ⟨k9, _, _, x9⟩ := three_set w4 z (.int .i64 1) (.int .i64 v) (.bool false) _ _ ⟨_, _, _, rfl⟩ HX4.out W10 hW10
    rw [hW10]
    clear n0' n1' n2' p0 p1 p2
    obtain ⟨d0, d1, d2⟩ := trio x9
    exact bodyPost_ret (v := .agg #[.int .i64 1, .int .i64 v, .bool false]) (by simp [results, Try.results78, go_sem, d0, d1, d2]) rfl ⟨by rw [HT.out]; rfl, (HB.out.trans (HB4.out.mono HB.out.size)).trans (k9.mono (by have := HZ.out; omega))⟩
set_option maxRecDepth 100000 in
set_option maxHeartbeats 4000000 in
theorem worked_8 (a b : Int) (ha : InR a) (hb : InR b) (w : World) : Calls Try.prog 78 #[.int .i64 8, .int .i64 a, .int .i64 b] w fun e w' => e = .returned (vlV (wkV 8 a b)) ∧ Below w.heap.size w w' := by
  obtain ⟨r, hr⟩ : ∃ r, r = divO a b := ⟨_, rfl⟩
  have HT : Hid (wkV 8 a b = outV r) := Lib.hid (by rw [hr]; exact divV_out a b)
  have CN : Hid (∀ W, Calls Try.prog 83 #[.int .i64 a, .int .i64 1, .int .i64 b, .int .i64 1] W fun e w' => e = .returned (.tuple #[.int .i64 (r.getD 0), .bool r.isSome]) ∧ Below W.heap.size W w') := Lib.hid fun W => by
    rw [hr]
    exact (Nu.md_any a 1 b 1 ha.1 ha.2 (by omega) (by omega) hb.1 hb.2 W).mono fun e w' k => givenMD k
  have CY : Hid (∀ n W, Calls Try.prog 73 #[.int .i64 n, .bool true] W fun e w' => e = .returned (.agg #[.int .i64 1, .int .i64 n, .bool false]) ∧ Below W.heap.size W w') := Lib.hid fun n W => number_yes n W
  have CO : Hid (∀ n W, Calls Try.prog 73 #[.int .i64 n, .bool false] W fun e w' => e = .returned (.agg #[.int .i64 3, .int .i64 0, .bool false]) ∧ Below W.heap.size W w') := Lib.hid fun n W => number_no n W
  have HF := Lib.hid (three_made (.int .i64 0) (.int .i64 0) (.bool false) 99 w)
  clear hr ha hb
  go_enter Try.func78, Try.ntmps78
  go_upto_region 1 with fail
  obtain ⟨W, hW⟩ : ∃ X, w.alloc (.cells #[.int .i64 0, .int .i64 0, .bool false] 99) = X := ⟨_, rfl⟩
  obtain ⟨k, b', s⟩ := HF.out W hW
  obtain ⟨z, hz⟩ : ∃ z, z = w.heap.size := ⟨_, rfl⟩
  rw [hW, ← hz]
  rw [← hz] at b'
  have HB := Lib.hid k
  have HX := Lib.hid b'
  have HZ := Lib.hid hz
  clear hW k b' s HF hz
  cases r with
  | none =>
    have CN2 : Hid (∀ W, Calls Try.prog 83 #[.int .i64 a, .int .i64 1, .int .i64 b, .int .i64 1] W fun e w' => e = .returned (.tuple #[.int .i64 0, .bool false]) ∧ Below W.heap.size W w') := CN
    clear CN
    go_wp2_with (first | (go_at_call 83; (with_reducible refine (CN2.out _).mono ?_); rintro e w3 ⟨rfl, hb⟩; have HB3 := Lib.hid hb; clear hb) | (go_at_call 73; (with_reducible refine (CO.out 0 _).mono ?_); rintro e w4 ⟨rfl, hb⟩; have HB4 := Lib.hid (below_mono HB3.out hb (Nat.le_refl _)); have HX4 := Lib.hid ((HB4.out.block _ (lt_of_heap HX.out)).trans HX.out); obtain ⟨n0', n1', n2'⟩ := trio HX4.out; have p0 : w4.frozen? ⟨z, 0, none⟩ = false := free_blk HX4.out 0; have p1 : w4.frozen? ⟨z, 1, none⟩ = false := free_blk HX4.out 1; have p2 : w4.frozen? ⟨z, 2, none⟩ = false := free_blk HX4.out 2; clear hb))
    obtain ⟨W10, hW10⟩ : ∃ X, (((w4.setCell ⟨z, 0, none⟩ (.int .i64 3)).setCell ⟨z, 1, none⟩ (.int .i64 0)).setCell ⟨z, 2, none⟩ (.bool false)) = X := ⟨_, rfl⟩
    obtain ⟨k9, _, _, x9⟩ := three_set w4 z (.int .i64 3) (.int .i64 0) (.bool false) _ _ ⟨_, _, _, rfl⟩ HX4.out W10 hW10
    rw [hW10]
    clear n0' n1' n2' p0 p1 p2
    obtain ⟨d0, d1, d2⟩ := trio x9
    exact bodyPost_ret (v := .agg #[.int .i64 3, .int .i64 0, .bool false]) (by simp [results, Try.results78, go_sem, d0, d1, d2]) rfl ⟨by rw [HT.out]; rfl, (HB.out.trans (HB4.out.mono HB.out.size)).trans (k9.mono (by have := HZ.out; omega))⟩
  | some v =>
    have CN2 : Hid (∀ W, Calls Try.prog 83 #[.int .i64 a, .int .i64 1, .int .i64 b, .int .i64 1] W fun e w' => e = .returned (.tuple #[.int .i64 v, .bool true]) ∧ Below W.heap.size W w') := CN
    clear CN
    go_wp2_with (first | (go_at_call 83; (with_reducible refine (CN2.out _).mono ?_); rintro e w3 ⟨rfl, hb⟩; have HB3 := Lib.hid hb; clear hb) | (go_at_call 73; (with_reducible refine (CY.out v _).mono ?_); rintro e w4 ⟨rfl, hb⟩; have HB4 := Lib.hid (below_mono HB3.out hb (Nat.le_refl _)); have HX4 := Lib.hid ((HB4.out.block _ (lt_of_heap HX.out)).trans HX.out); obtain ⟨n0', n1', n2'⟩ := trio HX4.out; have p0 : w4.frozen? ⟨z, 0, none⟩ = false := free_blk HX4.out 0; have p1 : w4.frozen? ⟨z, 1, none⟩ = false := free_blk HX4.out 1; have p2 : w4.frozen? ⟨z, 2, none⟩ = false := free_blk HX4.out 2; clear hb))
    obtain ⟨W10, hW10⟩ : ∃ X, (((w4.setCell ⟨z, 0, none⟩ (.int .i64 1)).setCell ⟨z, 1, none⟩ (.int .i64 v)).setCell ⟨z, 2, none⟩ (.bool false)) = X := ⟨_, rfl⟩
    obtain ⟨k9, _, _, x9⟩ := three_set w4 z (.int .i64 1) (.int .i64 v) (.bool false) _ _ ⟨_, _, _, rfl⟩ HX4.out W10 hW10
    rw [hW10]
    clear n0' n1' n2' p0 p1 p2
    obtain ⟨d0, d1, d2⟩ := trio x9
    exact bodyPost_ret (v := .agg #[.int .i64 1, .int .i64 v, .bool false]) (by simp [results, Try.results78, go_sem, d0, d1, d2]) rfl ⟨by rw [HT.out]; rfl, (HB.out.trans (HB4.out.mono HB.out.size)).trans (k9.mono (by have := HZ.out; omega))⟩
set_option maxRecDepth 100000 in
set_option maxHeartbeats 4000000 in
theorem worked_20 (a b : Int) (ha : InR a) (hb : InR b) (w : World) : Calls Try.prog 78 #[.int .i64 20, .int .i64 a, .int .i64 b] w fun e w' => e = .returned (vlV (wkV 20 a b)) ∧ Below w.heap.size w w' := by
  obtain ⟨r, hr⟩ : ∃ r, r = okI (-a) := ⟨_, rfl⟩
  have HT : Hid (wkV 20 a b = outV r) := Lib.hid (by rw [hr]; exact okV_out _)
  have CN : Hid (∀ W, Calls Try.prog 37 #[.int .i64 a] W fun e w' => e = .returned (.tuple #[.int .i64 (r.getD 0), .bool r.isSome]) ∧ Below W.heap.size W w') := Lib.hid fun W => by
    rw [hr]
    exact (Nu.neg_num a ha.1 ha.2 W).mono fun e w' k => given k
  have CY : Hid (∀ n W, Calls Try.prog 73 #[.int .i64 n, .bool true] W fun e w' => e = .returned (.agg #[.int .i64 1, .int .i64 n, .bool false]) ∧ Below W.heap.size W w') := Lib.hid fun n W => number_yes n W
  have CO : Hid (∀ n W, Calls Try.prog 73 #[.int .i64 n, .bool false] W fun e w' => e = .returned (.agg #[.int .i64 3, .int .i64 0, .bool false]) ∧ Below W.heap.size W w') := Lib.hid fun n W => number_no n W
  have HF := Lib.hid (three_made (.int .i64 0) (.int .i64 0) (.bool false) 99 w)
  clear hr ha hb
  go_enter Try.func78, Try.ntmps78
  go_upto_region 1 with fail
  obtain ⟨W, hW⟩ : ∃ X, w.alloc (.cells #[.int .i64 0, .int .i64 0, .bool false] 99) = X := ⟨_, rfl⟩
  obtain ⟨k, b', s⟩ := HF.out W hW
  obtain ⟨z, hz⟩ : ∃ z, z = w.heap.size := ⟨_, rfl⟩
  rw [hW, ← hz]
  rw [← hz] at b'
  have HB := Lib.hid k
  have HX := Lib.hid b'
  have HZ := Lib.hid hz
  clear hW k b' s HF hz
  cases r with
  | none =>
    have CN2 : Hid (∀ W, Calls Try.prog 37 #[.int .i64 a] W fun e w' => e = .returned (.tuple #[.int .i64 0, .bool false]) ∧ Below W.heap.size W w') := CN
    clear CN
    go_wp2_with (first | (go_at_call 37; (with_reducible refine (CN2.out _).mono ?_); rintro e w3 ⟨rfl, hb⟩; have HB3 := Lib.hid hb; clear hb) | (go_at_call 73; (with_reducible refine (CO.out 0 _).mono ?_); rintro e w4 ⟨rfl, hb⟩; have HB4 := Lib.hid (below_mono HB3.out hb (Nat.le_refl _)); have HX4 := Lib.hid ((HB4.out.block _ (lt_of_heap HX.out)).trans HX.out); obtain ⟨n0', n1', n2'⟩ := trio HX4.out; have p0 : w4.frozen? ⟨z, 0, none⟩ = false := free_blk HX4.out 0; have p1 : w4.frozen? ⟨z, 1, none⟩ = false := free_blk HX4.out 1; have p2 : w4.frozen? ⟨z, 2, none⟩ = false := free_blk HX4.out 2; clear hb))
    obtain ⟨W10, hW10⟩ : ∃ X, (((w4.setCell ⟨z, 0, none⟩ (.int .i64 3)).setCell ⟨z, 1, none⟩ (.int .i64 0)).setCell ⟨z, 2, none⟩ (.bool false)) = X := ⟨_, rfl⟩
    obtain ⟨k9, _, _, x9⟩ := three_set w4 z (.int .i64 3) (.int .i64 0) (.bool false) _ _ ⟨_, _, _, rfl⟩ HX4.out W10 hW10
    rw [hW10]
    clear n0' n1' n2' p0 p1 p2
    obtain ⟨d0, d1, d2⟩ := trio x9
    exact bodyPost_ret (v := .agg #[.int .i64 3, .int .i64 0, .bool false]) (by simp [results, Try.results78, go_sem, d0, d1, d2]) rfl ⟨by rw [HT.out]; rfl, (HB.out.trans (HB4.out.mono HB.out.size)).trans (k9.mono (by have := HZ.out; omega))⟩
  | some v =>
    have CN2 : Hid (∀ W, Calls Try.prog 37 #[.int .i64 a] W fun e w' => e = .returned (.tuple #[.int .i64 v, .bool true]) ∧ Below W.heap.size W w') := CN
    clear CN
    go_wp2_with (first | (go_at_call 37; (with_reducible refine (CN2.out _).mono ?_); rintro e w3 ⟨rfl, hb⟩; have HB3 := Lib.hid hb; clear hb) | (go_at_call 73; (with_reducible refine (CY.out v _).mono ?_); rintro e w4 ⟨rfl, hb⟩; have HB4 := Lib.hid (below_mono HB3.out hb (Nat.le_refl _)); have HX4 := Lib.hid ((HB4.out.block _ (lt_of_heap HX.out)).trans HX.out); obtain ⟨n0', n1', n2'⟩ := trio HX4.out; have p0 : w4.frozen? ⟨z, 0, none⟩ = false := free_blk HX4.out 0; have p1 : w4.frozen? ⟨z, 1, none⟩ = false := free_blk HX4.out 1; have p2 : w4.frozen? ⟨z, 2, none⟩ = false := free_blk HX4.out 2; clear hb))
    obtain ⟨W10, hW10⟩ : ∃ X, (((w4.setCell ⟨z, 0, none⟩ (.int .i64 1)).setCell ⟨z, 1, none⟩ (.int .i64 v)).setCell ⟨z, 2, none⟩ (.bool false)) = X := ⟨_, rfl⟩
    obtain ⟨k9, _, _, x9⟩ := three_set w4 z (.int .i64 1) (.int .i64 v) (.bool false) _ _ ⟨_, _, _, rfl⟩ HX4.out W10 hW10
    rw [hW10]
    clear n0' n1' n2' p0 p1 p2
    obtain ⟨d0, d1, d2⟩ := trio x9
    exact bodyPost_ret (v := .agg #[.int .i64 1, .int .i64 v, .bool false]) (by simp [results, Try.results78, go_sem, d0, d1, d2]) rfl ⟨by rw [HT.out]; rfl, (HB.out.trans (HB4.out.mono HB.out.size)).trans (k9.mono (by have := HZ.out; omega))⟩
set_option maxRecDepth 100000 in
set_option maxHeartbeats 4000000 in
theorem worked_9 (a b : Int) (w : World) : Calls Try.prog 78 #[.int .i64 9, .int .i64 a, .int .i64 b] w fun e w' => e = .returned (vlV (wkV 9 a b)) ∧ Below w.heap.size w w' := by
  have CY : Hid (∀ n W, Calls Try.prog 73 #[.int .i64 n, .bool true] W fun e w' => e = .returned (.agg #[.int .i64 1, .int .i64 n, .bool false]) ∧ Below W.heap.size W w') := Lib.hid fun n W => number_yes n W
  have hm := run_min a b
  have HT0 : Hid (wkV 9 a b = numV (min a b)) := Lib.hid rfl
  obtain ⟨v, hv⟩ : ∃ v, v = min a b := ⟨_, rfl⟩
  rw [← hv] at hm HT0
  have HT : Hid (wkV 9 a b = outV (some v)) := HT0
  clear hv HT0
  have HF := Lib.hid (three_made (.int .i64 0) (.int .i64 0) (.bool false) 99 w)
  go_enter Try.func78, Try.ntmps78
  go_upto_region 1 with fail
  obtain ⟨W, hW⟩ : ∃ X, w.alloc (.cells #[.int .i64 0, .int .i64 0, .bool false] 99) = X := ⟨_, rfl⟩
  obtain ⟨k, b', s⟩ := HF.out W hW
  obtain ⟨z, hz⟩ : ∃ z, z = w.heap.size := ⟨_, rfl⟩
  rw [hW, ← hz]
  rw [← hz] at b'
  have HB := Lib.hid k
  have HX := Lib.hid b'
  have HZ := Lib.hid hz
  clear hW k b' s HF hz
  go_wp2_with (go_at_call 73; (with_reducible refine (CY.out v _).mono ?_); rintro e w4 ⟨rfl, hb⟩; have HB4 := Lib.hid hb; have HX4 := Lib.hid ((HB4.out.block _ (lt_of_heap HX.out)).trans HX.out); obtain ⟨n0', n1', n2'⟩ := trio HX4.out; have p0 : w4.frozen? ⟨z, 0, none⟩ = false := free_blk HX4.out 0; have p1 : w4.frozen? ⟨z, 1, none⟩ = false := free_blk HX4.out 1; have p2 : w4.frozen? ⟨z, 2, none⟩ = false := free_blk HX4.out 2; clear hb)
  obtain ⟨W10, hW10⟩ : ∃ X, (((w4.setCell ⟨z, 0, none⟩ (.int .i64 1)).setCell ⟨z, 1, none⟩ (.int .i64 v)).setCell ⟨z, 2, none⟩ (.bool false)) = X := ⟨_, rfl⟩
  obtain ⟨k9, _, _, x9⟩ := three_set w4 z (.int .i64 1) (.int .i64 v) (.bool false) _ _ ⟨_, _, _, rfl⟩ HX4.out W10 hW10
  rw [hW10]
  clear n0' n1' n2' p0 p1 p2
  obtain ⟨d0, d1, d2⟩ := trio x9
  exact bodyPost_ret (v := .agg #[.int .i64 1, .int .i64 v, .bool false]) (by simp [results, Try.results78, go_sem, d0, d1, d2]) rfl ⟨by rw [HT.out]; rfl, (HB.out.trans (HB4.out.mono HB.out.size)).trans (k9.mono (by have := HZ.out; omega))⟩
set_option maxRecDepth 100000 in
set_option maxHeartbeats 4000000 in
theorem worked_10 (a b : Int) (w : World) : Calls Try.prog 78 #[.int .i64 10, .int .i64 a, .int .i64 b] w fun e w' => e = .returned (vlV (wkV 10 a b)) ∧ Below w.heap.size w w' := by
  have CY : Hid (∀ n W, Calls Try.prog 73 #[.int .i64 n, .bool true] W fun e w' => e = .returned (.agg #[.int .i64 1, .int .i64 n, .bool false]) ∧ Below W.heap.size W w') := Lib.hid fun n W => number_yes n W
  have hm := run_max a b
  have HT0 : Hid (wkV 10 a b = numV (max a b)) := Lib.hid rfl
  obtain ⟨v, hv⟩ : ∃ v, v = max a b := ⟨_, rfl⟩
  rw [← hv] at hm HT0
  have HT : Hid (wkV 10 a b = outV (some v)) := HT0
  clear hv HT0
  have HF := Lib.hid (three_made (.int .i64 0) (.int .i64 0) (.bool false) 99 w)
  go_enter Try.func78, Try.ntmps78
  go_upto_region 1 with fail
  obtain ⟨W, hW⟩ : ∃ X, w.alloc (.cells #[.int .i64 0, .int .i64 0, .bool false] 99) = X := ⟨_, rfl⟩
  obtain ⟨k, b', s⟩ := HF.out W hW
  obtain ⟨z, hz⟩ : ∃ z, z = w.heap.size := ⟨_, rfl⟩
  rw [hW, ← hz]
  rw [← hz] at b'
  have HB := Lib.hid k
  have HX := Lib.hid b'
  have HZ := Lib.hid hz
  clear hW k b' s HF hz
  go_wp2_with (go_at_call 73; (with_reducible refine (CY.out v _).mono ?_); rintro e w4 ⟨rfl, hb⟩; have HB4 := Lib.hid hb; have HX4 := Lib.hid ((HB4.out.block _ (lt_of_heap HX.out)).trans HX.out); obtain ⟨n0', n1', n2'⟩ := trio HX4.out; have p0 : w4.frozen? ⟨z, 0, none⟩ = false := free_blk HX4.out 0; have p1 : w4.frozen? ⟨z, 1, none⟩ = false := free_blk HX4.out 1; have p2 : w4.frozen? ⟨z, 2, none⟩ = false := free_blk HX4.out 2; clear hb)
  obtain ⟨W10, hW10⟩ : ∃ X, (((w4.setCell ⟨z, 0, none⟩ (.int .i64 1)).setCell ⟨z, 1, none⟩ (.int .i64 v)).setCell ⟨z, 2, none⟩ (.bool false)) = X := ⟨_, rfl⟩
  obtain ⟨k9, _, _, x9⟩ := three_set w4 z (.int .i64 1) (.int .i64 v) (.bool false) _ _ ⟨_, _, _, rfl⟩ HX4.out W10 hW10
  rw [hW10]
  clear n0' n1' n2' p0 p1 p2
  obtain ⟨d0, d1, d2⟩ := trio x9
  exact bodyPost_ret (v := .agg #[.int .i64 1, .int .i64 v, .bool false]) (by simp [results, Try.results78, go_sem, d0, d1, d2]) rfl ⟨by rw [HT.out]; rfl, (HB.out.trans (HB4.out.mono HB.out.size)).trans (k9.mono (by have := HZ.out; omega))⟩
set_option maxRecDepth 100000 in
set_option maxHeartbeats 4000000 in
theorem worked_11 (a b : Int) (w : World) : Calls Try.prog 78 #[.int .i64 11, .int .i64 a, .int .i64 b] w fun e w' => e = .returned (vlV (wkV 11 a b)) ∧ Below w.heap.size w w' := by
  have CT : Hid (∀ (t : Bool) W, Calls Try.prog 77 #[.bool t] W fun e w' => e = .returned (.agg #[.int .i64 2, .int .i64 0, .bool t]) ∧ Below W.heap.size W w') := Lib.hid fun t W => truth_any t W
  obtain ⟨t, ht⟩ : ∃ t, t = decide (a < b) := ⟨_, rfl⟩
  have HT : Hid (wkV 11 a b = truV t) := Lib.hid (by rw [ht]; rfl)
  have hd : decide (a < b) = t := ht.symm
  have HF := Lib.hid (three_made (.int .i64 0) (.int .i64 0) (.bool false) 99 w)
  go_enter Try.func78, Try.ntmps78
  go_upto_region 1 with fail
  obtain ⟨W, hW⟩ : ∃ X, w.alloc (.cells #[.int .i64 0, .int .i64 0, .bool false] 99) = X := ⟨_, rfl⟩
  obtain ⟨k, b', s⟩ := HF.out W hW
  obtain ⟨z, hz⟩ : ∃ z, z = w.heap.size := ⟨_, rfl⟩
  rw [hW, ← hz]
  rw [← hz] at b'
  have HB := Lib.hid k
  have HX := Lib.hid b'
  have HZ := Lib.hid hz
  clear hW k b' s HF hz
  cases t with
  | true =>
    have h1 : a < b := of_decide_eq_true hd
    clear hd ht
    go_wp2_with (go_at_call 77; (with_reducible refine (CT.out true _).mono ?_); rintro e w4 ⟨rfl, hb⟩; have HB4 := Lib.hid hb; have HX4 := Lib.hid ((hb.block _ (lt_of_heap HX.out)).trans HX.out); obtain ⟨n0', n1', n2'⟩ := trio HX4.out; have p0 : w4.frozen? ⟨z, 0, none⟩ = false := free_blk HX4.out 0; have p1 : w4.frozen? ⟨z, 1, none⟩ = false := free_blk HX4.out 1; have p2 : w4.frozen? ⟨z, 2, none⟩ = false := free_blk HX4.out 2; clear hb)
    obtain ⟨W10, hW10⟩ : ∃ X, (((w4.setCell ⟨z, 0, none⟩ (.int .i64 2)).setCell ⟨z, 1, none⟩ (.int .i64 0)).setCell ⟨z, 2, none⟩ (.bool true)) = X := ⟨_, rfl⟩
    obtain ⟨k9, _, _, x9⟩ := three_set w4 z (.int .i64 2) (.int .i64 0) (.bool true) _ _ ⟨_, _, _, rfl⟩ HX4.out W10 hW10
    rw [hW10]
    clear n0' n1' n2' p0 p1 p2
    obtain ⟨d0, d1, d2⟩ := trio x9
    exact bodyPost_ret (v := .agg #[.int .i64 2, .int .i64 0, .bool true]) (by simp [results, Try.results78, go_sem, d0, d1, d2]) rfl ⟨by rw [HT.out]; rfl, (HB.out.trans (HB4.out.mono HB.out.size)).trans (k9.mono (by have := HZ.out; omega))⟩
  | false =>
    have h1 : ¬ a < b := of_decide_eq_false hd
    clear hd ht
    go_wp2_with (go_at_call 77; (with_reducible refine (CT.out false _).mono ?_); rintro e w4 ⟨rfl, hb⟩; have HB4 := Lib.hid hb; have HX4 := Lib.hid ((hb.block _ (lt_of_heap HX.out)).trans HX.out); obtain ⟨n0', n1', n2'⟩ := trio HX4.out; have p0 : w4.frozen? ⟨z, 0, none⟩ = false := free_blk HX4.out 0; have p1 : w4.frozen? ⟨z, 1, none⟩ = false := free_blk HX4.out 1; have p2 : w4.frozen? ⟨z, 2, none⟩ = false := free_blk HX4.out 2; clear hb)
    obtain ⟨W10, hW10⟩ : ∃ X, (((w4.setCell ⟨z, 0, none⟩ (.int .i64 2)).setCell ⟨z, 1, none⟩ (.int .i64 0)).setCell ⟨z, 2, none⟩ (.bool false)) = X := ⟨_, rfl⟩
    obtain ⟨k9, _, _, x9⟩ := three_set w4 z (.int .i64 2) (.int .i64 0) (.bool false) _ _ ⟨_, _, _, rfl⟩ HX4.out W10 hW10
    rw [hW10]
    clear n0' n1' n2' p0 p1 p2
    obtain ⟨d0, d1, d2⟩ := trio x9
    exact bodyPost_ret (v := .agg #[.int .i64 2, .int .i64 0, .bool false]) (by simp [results, Try.results78, go_sem, d0, d1, d2]) rfl ⟨by rw [HT.out]; rfl, (HB.out.trans (HB4.out.mono HB.out.size)).trans (k9.mono (by have := HZ.out; omega))⟩
set_option maxRecDepth 100000 in
set_option maxHeartbeats 4000000 in
theorem worked_12 (a b : Int) (w : World) : Calls Try.prog 78 #[.int .i64 12, .int .i64 a, .int .i64 b] w fun e w' => e = .returned (vlV (wkV 12 a b)) ∧ Below w.heap.size w w' := by
  have CT : Hid (∀ (t : Bool) W, Calls Try.prog 77 #[.bool t] W fun e w' => e = .returned (.agg #[.int .i64 2, .int .i64 0, .bool t]) ∧ Below W.heap.size W w') := Lib.hid fun t W => truth_any t W
  obtain ⟨t, ht⟩ : ∃ t, t = decide (a ≤ b) := ⟨_, rfl⟩
  have HT : Hid (wkV 12 a b = truV t) := Lib.hid (by rw [ht]; rfl)
  have hd : decide (a ≤ b) = t := ht.symm
  have HF := Lib.hid (three_made (.int .i64 0) (.int .i64 0) (.bool false) 99 w)
  go_enter Try.func78, Try.ntmps78
  go_upto_region 1 with fail
  obtain ⟨W, hW⟩ : ∃ X, w.alloc (.cells #[.int .i64 0, .int .i64 0, .bool false] 99) = X := ⟨_, rfl⟩
  obtain ⟨k, b', s⟩ := HF.out W hW
  obtain ⟨z, hz⟩ : ∃ z, z = w.heap.size := ⟨_, rfl⟩
  rw [hW, ← hz]
  rw [← hz] at b'
  have HB := Lib.hid k
  have HX := Lib.hid b'
  have HZ := Lib.hid hz
  clear hW k b' s HF hz
  cases t with
  | true =>
    have h1 : a ≤ b := of_decide_eq_true hd
    clear hd ht
    go_wp2_with (go_at_call 77; (with_reducible refine (CT.out true _).mono ?_); rintro e w4 ⟨rfl, hb⟩; have HB4 := Lib.hid hb; have HX4 := Lib.hid ((hb.block _ (lt_of_heap HX.out)).trans HX.out); obtain ⟨n0', n1', n2'⟩ := trio HX4.out; have p0 : w4.frozen? ⟨z, 0, none⟩ = false := free_blk HX4.out 0; have p1 : w4.frozen? ⟨z, 1, none⟩ = false := free_blk HX4.out 1; have p2 : w4.frozen? ⟨z, 2, none⟩ = false := free_blk HX4.out 2; clear hb)
    obtain ⟨W10, hW10⟩ : ∃ X, (((w4.setCell ⟨z, 0, none⟩ (.int .i64 2)).setCell ⟨z, 1, none⟩ (.int .i64 0)).setCell ⟨z, 2, none⟩ (.bool true)) = X := ⟨_, rfl⟩
    obtain ⟨k9, _, _, x9⟩ := three_set w4 z (.int .i64 2) (.int .i64 0) (.bool true) _ _ ⟨_, _, _, rfl⟩ HX4.out W10 hW10
    rw [hW10]
    clear n0' n1' n2' p0 p1 p2
    obtain ⟨d0, d1, d2⟩ := trio x9
    exact bodyPost_ret (v := .agg #[.int .i64 2, .int .i64 0, .bool true]) (by simp [results, Try.results78, go_sem, d0, d1, d2]) rfl ⟨by rw [HT.out]; rfl, (HB.out.trans (HB4.out.mono HB.out.size)).trans (k9.mono (by have := HZ.out; omega))⟩
  | false =>
    have h1 : ¬ a ≤ b := of_decide_eq_false hd
    clear hd ht
    go_wp2_with (go_at_call 77; (with_reducible refine (CT.out false _).mono ?_); rintro e w4 ⟨rfl, hb⟩; have HB4 := Lib.hid hb; have HX4 := Lib.hid ((hb.block _ (lt_of_heap HX.out)).trans HX.out); obtain ⟨n0', n1', n2'⟩ := trio HX4.out; have p0 : w4.frozen? ⟨z, 0, none⟩ = false := free_blk HX4.out 0; have p1 : w4.frozen? ⟨z, 1, none⟩ = false := free_blk HX4.out 1; have p2 : w4.frozen? ⟨z, 2, none⟩ = false := free_blk HX4.out 2; clear hb)
    obtain ⟨W10, hW10⟩ : ∃ X, (((w4.setCell ⟨z, 0, none⟩ (.int .i64 2)).setCell ⟨z, 1, none⟩ (.int .i64 0)).setCell ⟨z, 2, none⟩ (.bool false)) = X := ⟨_, rfl⟩
    obtain ⟨k9, _, _, x9⟩ := three_set w4 z (.int .i64 2) (.int .i64 0) (.bool false) _ _ ⟨_, _, _, rfl⟩ HX4.out W10 hW10
    rw [hW10]
    clear n0' n1' n2' p0 p1 p2
    obtain ⟨d0, d1, d2⟩ := trio x9
    exact bodyPost_ret (v := .agg #[.int .i64 2, .int .i64 0, .bool false]) (by simp [results, Try.results78, go_sem, d0, d1, d2]) rfl ⟨by rw [HT.out]; rfl, (HB.out.trans (HB4.out.mono HB.out.size)).trans (k9.mono (by have := HZ.out; omega))⟩
set_option maxRecDepth 100000 in
set_option maxHeartbeats 4000000 in
theorem worked_13 (a b : Int) (w : World) : Calls Try.prog 78 #[.int .i64 13, .int .i64 a, .int .i64 b] w fun e w' => e = .returned (vlV (wkV 13 a b)) ∧ Below w.heap.size w w' := by
  have CT : Hid (∀ (t : Bool) W, Calls Try.prog 77 #[.bool t] W fun e w' => e = .returned (.agg #[.int .i64 2, .int .i64 0, .bool t]) ∧ Below W.heap.size W w') := Lib.hid fun t W => truth_any t W
  obtain ⟨t, ht⟩ : ∃ t, t = decide (a = b) := ⟨_, rfl⟩
  have HT : Hid (wkV 13 a b = truV t) := Lib.hid (by rw [ht]; rfl)
  have hd : decide (a = b) = t := ht.symm
  have HF := Lib.hid (three_made (.int .i64 0) (.int .i64 0) (.bool false) 99 w)
  go_enter Try.func78, Try.ntmps78
  go_upto_region 1 with fail
  obtain ⟨W, hW⟩ : ∃ X, w.alloc (.cells #[.int .i64 0, .int .i64 0, .bool false] 99) = X := ⟨_, rfl⟩
  obtain ⟨k, b', s⟩ := HF.out W hW
  obtain ⟨z, hz⟩ : ∃ z, z = w.heap.size := ⟨_, rfl⟩
  rw [hW, ← hz]
  rw [← hz] at b'
  have HB := Lib.hid k
  have HX := Lib.hid b'
  have HZ := Lib.hid hz
  clear hW k b' s HF hz
  cases t with
  | true =>
    have h1 : a = b := of_decide_eq_true hd
    have f1 : (a == b) = true := by simp [h1]
    clear hd ht h1
    go_wp2_with (go_at_call 77; (with_reducible refine (CT.out true _).mono ?_); rintro e w4 ⟨rfl, hb⟩; have HB4 := Lib.hid hb; have HX4 := Lib.hid ((hb.block _ (lt_of_heap HX.out)).trans HX.out); obtain ⟨n0', n1', n2'⟩ := trio HX4.out; have p0 : w4.frozen? ⟨z, 0, none⟩ = false := free_blk HX4.out 0; have p1 : w4.frozen? ⟨z, 1, none⟩ = false := free_blk HX4.out 1; have p2 : w4.frozen? ⟨z, 2, none⟩ = false := free_blk HX4.out 2; clear hb)
    obtain ⟨W10, hW10⟩ : ∃ X, (((w4.setCell ⟨z, 0, none⟩ (.int .i64 2)).setCell ⟨z, 1, none⟩ (.int .i64 0)).setCell ⟨z, 2, none⟩ (.bool true)) = X := ⟨_, rfl⟩
    obtain ⟨k9, _, _, x9⟩ := three_set w4 z (.int .i64 2) (.int .i64 0) (.bool true) _ _ ⟨_, _, _, rfl⟩ HX4.out W10 hW10
    rw [hW10]
    clear n0' n1' n2' p0 p1 p2
    obtain ⟨d0, d1, d2⟩ := trio x9
    exact bodyPost_ret (v := .agg #[.int .i64 2, .int .i64 0, .bool true]) (by simp [results, Try.results78, go_sem, d0, d1, d2]) rfl ⟨by rw [HT.out]; rfl, (HB.out.trans (HB4.out.mono HB.out.size)).trans (k9.mono (by have := HZ.out; omega))⟩
  | false =>
    have h1 : ¬ a = b := of_decide_eq_false hd
    have f1 : (a == b) = false := by simp [h1]
    clear hd ht h1
    go_wp2_with (go_at_call 77; (with_reducible refine (CT.out false _).mono ?_); rintro e w4 ⟨rfl, hb⟩; have HB4 := Lib.hid hb; have HX4 := Lib.hid ((hb.block _ (lt_of_heap HX.out)).trans HX.out); obtain ⟨n0', n1', n2'⟩ := trio HX4.out; have p0 : w4.frozen? ⟨z, 0, none⟩ = false := free_blk HX4.out 0; have p1 : w4.frozen? ⟨z, 1, none⟩ = false := free_blk HX4.out 1; have p2 : w4.frozen? ⟨z, 2, none⟩ = false := free_blk HX4.out 2; clear hb)
    obtain ⟨W10, hW10⟩ : ∃ X, (((w4.setCell ⟨z, 0, none⟩ (.int .i64 2)).setCell ⟨z, 1, none⟩ (.int .i64 0)).setCell ⟨z, 2, none⟩ (.bool false)) = X := ⟨_, rfl⟩
    obtain ⟨k9, _, _, x9⟩ := three_set w4 z (.int .i64 2) (.int .i64 0) (.bool false) _ _ ⟨_, _, _, rfl⟩ HX4.out W10 hW10
    rw [hW10]
    clear n0' n1' n2' p0 p1 p2
    obtain ⟨d0, d1, d2⟩ := trio x9
    exact bodyPost_ret (v := .agg #[.int .i64 2, .int .i64 0, .bool false]) (by simp [results, Try.results78, go_sem, d0, d1, d2]) rfl ⟨by rw [HT.out]; rfl, (HB.out.trans (HB4.out.mono HB.out.size)).trans (k9.mono (by have := HZ.out; omega))⟩
set_option maxRecDepth 100000 in
set_option maxHeartbeats 4000000 in
theorem worked_14 (a b : Int) (w : World) : Calls Try.prog 78 #[.int .i64 14, .int .i64 a, .int .i64 b] w fun e w' => e = .returned (vlV (wkV 14 a b)) ∧ Below w.heap.size w w' := by
  have CT : Hid (∀ (t : Bool) W, Calls Try.prog 77 #[.bool t] W fun e w' => e = .returned (.agg #[.int .i64 2, .int .i64 0, .bool t]) ∧ Below W.heap.size W w') := Lib.hid fun t W => truth_any t W
  obtain ⟨t, ht⟩ : ∃ t, t = decide (a ≠ b) := ⟨_, rfl⟩
  have HT : Hid (wkV 14 a b = truV t) := Lib.hid (by rw [ht]; rfl)
  have hd : decide (a ≠ b) = t := ht.symm
  have HF := Lib.hid (three_made (.int .i64 0) (.int .i64 0) (.bool false) 99 w)
  go_enter Try.func78, Try.ntmps78
  go_upto_region 1 with fail
  obtain ⟨W, hW⟩ : ∃ X, w.alloc (.cells #[.int .i64 0, .int .i64 0, .bool false] 99) = X := ⟨_, rfl⟩
  obtain ⟨k, b', s⟩ := HF.out W hW
  obtain ⟨z, hz⟩ : ∃ z, z = w.heap.size := ⟨_, rfl⟩
  rw [hW, ← hz]
  rw [← hz] at b'
  have HB := Lib.hid k
  have HX := Lib.hid b'
  have HZ := Lib.hid hz
  clear hW k b' s HF hz
  cases t with
  | true =>
    have h1 : a ≠ b := of_decide_eq_true hd
    have f1 : (a == b) = false := by simp [h1]
    have f2 : (a != b) = true := by simp [h1]
    clear hd ht h1
    go_wp2_with (go_at_call 77; (with_reducible refine (CT.out true _).mono ?_); rintro e w4 ⟨rfl, hb⟩; have HB4 := Lib.hid hb; have HX4 := Lib.hid ((hb.block _ (lt_of_heap HX.out)).trans HX.out); obtain ⟨n0', n1', n2'⟩ := trio HX4.out; have p0 : w4.frozen? ⟨z, 0, none⟩ = false := free_blk HX4.out 0; have p1 : w4.frozen? ⟨z, 1, none⟩ = false := free_blk HX4.out 1; have p2 : w4.frozen? ⟨z, 2, none⟩ = false := free_blk HX4.out 2; clear hb)
    obtain ⟨W10, hW10⟩ : ∃ X, (((w4.setCell ⟨z, 0, none⟩ (.int .i64 2)).setCell ⟨z, 1, none⟩ (.int .i64 0)).setCell ⟨z, 2, none⟩ (.bool true)) = X := ⟨_, rfl⟩
    obtain ⟨k9, _, _, x9⟩ := three_set w4 z (.int .i64 2) (.int .i64 0) (.bool true) _ _ ⟨_, _, _, rfl⟩ HX4.out W10 hW10
    rw [hW10]
    clear n0' n1' n2' p0 p1 p2
    obtain ⟨d0, d1, d2⟩ := trio x9
    exact bodyPost_ret (v := .agg #[.int .i64 2, .int .i64 0, .bool true]) (by simp [results, Try.results78, go_sem, d0, d1, d2]) rfl ⟨by rw [HT.out]; rfl, (HB.out.trans (HB4.out.mono HB.out.size)).trans (k9.mono (by have := HZ.out; omega))⟩
  | false =>
    have h1 : ¬ a ≠ b := of_decide_eq_false hd
    have f1 : (a == b) = true := by simpa using h1
    have f2 : (a != b) = false := by simpa using h1
    clear hd ht h1
    go_wp2_with (go_at_call 77; (with_reducible refine (CT.out false _).mono ?_); rintro e w4 ⟨rfl, hb⟩; have HB4 := Lib.hid hb; have HX4 := Lib.hid ((hb.block _ (lt_of_heap HX.out)).trans HX.out); obtain ⟨n0', n1', n2'⟩ := trio HX4.out; have p0 : w4.frozen? ⟨z, 0, none⟩ = false := free_blk HX4.out 0; have p1 : w4.frozen? ⟨z, 1, none⟩ = false := free_blk HX4.out 1; have p2 : w4.frozen? ⟨z, 2, none⟩ = false := free_blk HX4.out 2; clear hb)
    obtain ⟨W10, hW10⟩ : ∃ X, (((w4.setCell ⟨z, 0, none⟩ (.int .i64 2)).setCell ⟨z, 1, none⟩ (.int .i64 0)).setCell ⟨z, 2, none⟩ (.bool false)) = X := ⟨_, rfl⟩
    obtain ⟨k9, _, _, x9⟩ := three_set w4 z (.int .i64 2) (.int .i64 0) (.bool false) _ _ ⟨_, _, _, rfl⟩ HX4.out W10 hW10
    rw [hW10]
    clear n0' n1' n2' p0 p1 p2
    obtain ⟨d0, d1, d2⟩ := trio x9
    exact bodyPost_ret (v := .agg #[.int .i64 2, .int .i64 0, .bool false]) (by simp [results, Try.results78, go_sem, d0, d1, d2]) rfl ⟨by rw [HT.out]; rfl, (HB.out.trans (HB4.out.mono HB.out.size)).trans (k9.mono (by have := HZ.out; omega))⟩
def pWork (o a b : Int) : Prop := InR a ∧ InR b ∧ (5 ≤ o ∧ o ≤ 16 ∨ o = 20)
theorem worked_any : ∀ o a b, pWork o a b → ∀ w, Calls Try.prog 78 #[.int .i64 o, .int .i64 a, .int .i64 b] w fun e w' => e = .returned (vlV (wkV o a b)) ∧ Below w.heap.size w w' := by
  rintro o a b ⟨ha, hb, ho⟩ w
  have : o = 5 ∨ o = 6 ∨ o = 7 ∨ o = 8 ∨ o = 9 ∨ o = 10 ∨ o = 11 ∨ o = 12 ∨ o = 13 ∨ o = 14 ∨ o = 15 ∨ o = 16 ∨ o = 20 := by omega
  rcases this with rfl | rfl | rfl | rfl | rfl | rfl | rfl | rfl | rfl | rfl | rfl | rfl | rfl
  · exact worked_5 a b ha hb w
  · exact worked_6 a b ha hb w
  · exact worked_7 a b ha hb w
  · exact worked_8 a b ha hb w
  · exact worked_9 a b w
  · exact worked_10 a b w
  · exact worked_11 a b w
  · exact worked_12 a b w
  · exact worked_13 a b w
  · exact worked_14 a b w
  · exact worked_15 a b w
  · exact worked_16 a b w
  · exact worked_20 a b ha hb w
end Go.Proofs.Ythhimllddgfddaa
namespace Go.Proofs.Ythhimllddgfddaa
open Go.RowKit Go.PlainAid Go.Sort
set_option linter.unusedVariables false
set_option linter.unusedSimpArgs false
end Go.Proofs.Ythhimllddgfddaa
namespace Go.Proofs.Ythhimllddgfddaa
open Go.ChangeShapes Go.WideShapes Go.RowKit Go.Deep Go.WideElems Go.Maps Go.PlainAid Go.Sort
set_option linter.unusedVariables false
set_option linter.unusedSimpArgs false
theorem stepF_mem {day : Int} {nm : ByteArray} {b : Option Fx} {f g : Fx} (h : stepF day nm b f = some g) : b = some g ∨ g = f := by
  unfold stepF at h
  split at h
  · injection h with h; exact .inr h.symm
  · exact .inl h
theorem seenF_mem {day : Int} {nm : ByteArray} {f : Fx} : ∀ (l : List Fx) (b : Option Fx), l.foldl (stepF day nm) b = some f → b = some f ∨ f ∈ l
  | [], b, h => .inl h
  | g :: t, b, h => by
    rcases seenF_mem t _ h with h1 | h1
    · rcases stepF_mem h1 with h2 | h2
      · exact .inl h2
      · exact .inr (by rw [h2]; simp)
    · exact .inr (by simp [h1])
theorem okV_in (z : Int) : InR (okV z).n := by
  unfold okV
  split
  · rename_i h; exact h
  · exact ⟨by decide, by decide⟩
theorem zero_in : InR 0 := ⟨by omega, by omega⟩
theorem wkV_in (o a b : Int) (ha : InR a) (hb : InR b) : InR (wkV o a b).n := by
  unfold wkV
  by_cases h5 : o = 5
  · rw [if_pos h5]; exact okV_in _
  rw [if_neg h5]
  by_cases h6 : o = 6
  · rw [if_pos h6]; exact okV_in _
  rw [if_neg h6]
  by_cases h7 : o = 7
  · rw [if_pos h7]; exact okV_in _
  rw [if_neg h7]
  by_cases h8 : o = 8
  · rw [if_pos h8]
    by_cases h0 : b = 0
    · rw [if_pos h0]; exact zero_in
    · rw [if_neg h0]; exact okV_in _
  rw [if_neg h8]
  by_cases h9 : o = 9
  · rw [if_pos h9]; exact ⟨by have := ha.1; have := hb.1; show _ ≤ min a b; omega, by have := ha.2; have := hb.2; show min a b ≤ _; omega⟩
  rw [if_neg h9]
  by_cases h10 : o = 10
  · rw [if_pos h10]; exact ⟨by have := ha.1; have := hb.1; show _ ≤ max a b; omega, by have := ha.2; have := hb.2; show max a b ≤ _; omega⟩
  rw [if_neg h10]
  by_cases h20 : o = 20
  · rw [if_pos h20]; exact okV_in _
  rw [if_neg h20]
  have : ∀ v : Vl, (∃ t, v = truV t) → InR v.n := fun v ⟨t, h⟩ => by rw [h]; exact zero_in
  apply this
  repeat' split
  all_goals exact ⟨_, rfl⟩
theorem plV_in (o : Int) (a b : Vl) (ha : InR a.n) (hb : InR b.n) : InR (plV o a b).n := by
  unfold plV
  repeat' split
  all_goals first | exact zero_in | exact wkV_in _ _ _ ha hb
theorem jnV_in (d : Bool) (a b : Vl) (ha : InR a.n) (hb : InR b.n) : InR (jnV d a b).n := by
  unfold jnV
  repeat' split
  all_goals first | exact ha | exact hb | exact zero_in
theorem chV_in (a b c : Vl) (ha : InR a.n) (hb : InR b.n) (hc : InR c.n) : InR (chV a b c).n := by
  unfold chV
  repeat' split
  all_goals first | exact ha | exact hb | exact hc
theorem ev_in {sn : ByteArray → Option Fx} {day : Int} (hd : InR day) (hs : ∀ s f, sn s = some f → InR f.val) (x : Xp) : x.rng → InR (x.ev sn day).n := by
  induction x using Xp.ind with
  | h x IH =>
  intro hr
  have hrr := (Xp.rng_eq x).1 hr
  rw [x.ev_eq]
  have hv : ∀ v ∈ x.args.map (Xp.ev sn day), InR v.n := fun v hv => by
    obtain ⟨y, hy, rfl⟩ := List.mem_map.1 hv
    exact IH y hy (hrr.2 y hy)
  revert hv
  generalize x.args.map (Xp.ev sn day) = vs
  intro hv
  unfold evN
  split
  · exact hrr.1
  · split
    · exact hd
    · split
      · cases h : sn x.nm with
        | none => exact zero_in
        | some f => exact hs _ f h
      · match vs, hv with
        | [], _ => exact zero_in
        | [a], hv => exact plV_in _ _ _ (hv a (by simp)) (hv a (by simp))
        | [a, b], hv =>
          show InR (if x.op = 17 then _ else if x.op = 18 then _ else _ : Vl).n
          split
          · exact jnV_in _ _ _ (hv a (by simp)) (hv b (by simp))
          · split
            · exact jnV_in _ _ _ (hv a (by simp)) (hv b (by simp))
            · exact plV_in _ _ _ (hv a (by simp)) (hv b (by simp))
        | [a, b, c], hv => exact chV_in _ _ _ (hv a (by simp)) (hv b (by simp)) (hv c (by simp))
        | _ :: _ :: _ :: _ :: _, _ => exact zero_in
theorem wok_in {sn : ByteArray → Option Fx} {day : Int} (hd : InR day) (hs : ∀ s f, sn s = some f → InR f.val) (x : Xp) : x.rng → x.wok pWork sn day := by
  induction x using Xp.ind with
  | h x IH =>
  intro hr
  have hrr := (Xp.rng_eq x).1 hr
  refine (x.wok_eq pWork sn day).2 ⟨?_, fun y hy => IH y hy (hrr.2 y hy)⟩
  have hv : ∀ v ∈ x.args.map (Xp.ev sn day), InR v.n := fun v hv => by
    obtain ⟨y, hy, rfl⟩ := List.mem_map.1 hv
    exact ev_in hd hs y (hrr.2 y hy)
  revert hv
  generalize x.args.map (Xp.ev sn day) = vs
  intro hv
  match vs, hv with
  | [], _ => exact trivial
  | [a], hv => exact fun ho => ⟨hv a (by simp), hv a (by simp), .inr ho⟩
  | [a, b], hv => exact fun ho => ⟨hv a (by simp), hv b (by simp), .inl ho⟩
  | _ :: _ :: _ :: _, _ => exact trivial
def FxIn (F : List Fx) : Prop := ∀ f ∈ F, f.nm.size ≤ maxLen ∧ InR f.day ∧ InR f.val
theorem seen_in {F : List Fx} (h : FxIn F) (day : Int) (s : ByteArray) (f : Fx) (hf : seenF day s F = some f) : InR f.val := by
  rcases seenF_mem F none hf with h1 | h1
  · cases h1
  · exact (h f h1).2.2
set_option maxRecDepth 100000 in
theorem fixings_cells2 {H : Type} {enc : TypeId × Value → H} {W : World} {v : Value} {fuel : Nat} {y : DataW H × List MemPlace}
    (hf : DataW.trod enc Try.prog W 0 (fun _ => true) true fuel 24 [v] = some y) :
    ∃ ao cap, ∃ xs : List Fx, v = .slice ao xs.length cap ∧ xs.length ≤ cap ∧ cap ≤ maxLen ∧ FxIn xs ∧ FxA (fun b => b < W.heap.size) ao xs W := by
  rcases open_slice_fields Try.underlying24 Try.underlying74 (by kernel_rfl) (by
      intro j f hj
      match j, hj with
      | 0, hj => cases hj; exact ⟨rfl, by kernel_rfl⟩
      | 1, hj => cases hj; exact ⟨rfl, by kernel_rfl⟩
      | 2, hj => cases hj; exact ⟨rfl, by kernel_rfl⟩
      | j + 3, hj => simp at hj) hf with hcs | ⟨a, len, cap, hcs, hl, hm, hcell⟩
  · simp at hcs
    subst hcs
    exact ⟨none, 0, [], rfl, by simp, by unfold maxLen; omega, (by intro f hf; cases hf), fun h => absurd rfl h⟩
  · simp at hcs
    subst hcs
    have each : ∀ i, i < len → ∃ q : Fx, (q.nm.size ≤ maxLen ∧ InR q.day ∧ InR q.val) ∧ W.cell? (a.add (i * 3)) = some (.string q.nm) ∧ W.cell? (a.add (i * 3 + 1)) = some (.int .i64 q.day) ∧ W.cell? (a.add (i * 3 + 2)) = some (.int .i64 q.val) := by
      intro i hi
      obtain ⟨v0, n0, y0, c0, t0⟩ := hcell i hi 0 _ rfl
      obtain ⟨v1, n1, y1, c1, t1⟩ := hcell i hi 1 _ rfl
      obtain ⟨v2, n2, y2, c2, t2⟩ := hcell i hi 2 _ rfl
      obtain ⟨x0, e0, _, w0⟩ := DataW.trod_string Try.underlying9 t0
      obtain ⟨x1, e1, _, w1⟩ := DataW.trod_int Try.underlying3 t1
      obtain ⟨x2, e2, _, w2⟩ := DataW.trod_int Try.underlying2 t2
      simp at e0 e1 e2
      subst e0 e1 e2
      exact ⟨⟨x0, x1, x2⟩, ⟨w0, inr_of w1, inr_of w2⟩, c0, c1, c2⟩
    obtain ⟨q, hq⟩ := choose_to each ⟨ByteArray.empty, 0, 0⟩
    refine ⟨some a, cap, (List.range len).map q, by simp, by simpa using hl, hm, ?_, fun hne => ⟨a, rfl, ?_, fun i x hx => ?_⟩⟩
    · intro f hf
      obtain ⟨i, hi, rfl⟩ := List.mem_map.1 hf
      exact (hq i (List.mem_range.1 hi)).1
    · have hlen : 0 < len := by
        rcases Nat.eq_zero_or_pos len with h | h
        · subst h; simp at hne
        · exact h
      have := World.block_lt_of_cell? _ _ (hq 0 hlen).2.1
      rwa [add_block] at this
    · have hi : i < len := by
        rcases Nat.lt_or_ge i len with h | h
        · exact h
        · rw [List.getElem?_eq_none (by simpa using h)] at hx; simp at hx
      rw [List.getElem?_map, List.getElem?_range hi] at hx
      cases hx
      obtain ⟨_, c0, c1, c2⟩ := hq i hi
      have e2 : ∀ k, 0 < k → (⟨(a.add (i * 3)).block, (a.add (i * 3)).off + k, none⟩ : Addr) = a.add (i * 3 + k) := fun k hk => by unfold Addr.add; split <;> split <;> simp_all <;> omega
      exact ⟨c0, by rw [e2 1 (by omega)]; exact c1, by rw [e2 2 (by omega)]; exact c2⟩
end Go.Proofs.Ythhimllddgfddaa
namespace Go.Proofs.Ythhimllddgfddaa
open Go.RowKit Go.PlainAid Go.Sort
set_option linter.unusedVariables false
set_option linter.unusedSimpArgs false
end Go.Proofs.Ythhimllddgfddaa
namespace Go.Proofs.Ythhimllddgfddaa
open Go.RowKit Go.PlainAid Go.Sort
set_option linter.unusedVariables false
set_option linter.unusedSimpArgs false
theorem VAt.wide {B C : Nat} {ao : Option Addr} {l : List Value} {w : World} (h : VAt B ao l w) (k : B ≤ C) : VAt C ao l w := ⟨h.there, fun a e hp => ⟨Nat.lt_of_lt_of_le (h.cells a e hp).1 k, (h.cells a e hp).2⟩⟩
theorem LfAt.wide {B C : Nat} {ao : Option Addr} {l : List Lf} {w : World} (h : LfAt B ao l w) (k : B ≤ C) : LfAt C ao l w := ⟨h.there, fun a e hp => ⟨Nat.lt_of_lt_of_le (h.cells a e hp).1 k, fun i x hi => by
  obtain ⟨bo, m, h1, h2, h3, h4⟩ := (h.cells a e hp).2 i x hi
  exact ⟨bo, m, h1, h2, h3, h4.wide k⟩⟩⟩
def LastP (w : World) (xs : List Xp) (e : Ending) (w' : World) : Prop := ((∃ x co ck, x ∈ xs ∧ x.rgt = true ∧ x.knd ≠ 0 ∧ e = .returned (.tuple #[exV x co ck, .bool true]) ∧ x.args.length ≤ ck ∧ ExL (fun b => w.heap.size ≤ b ∧ b < w'.heap.size) w' x.args co) ∨ e = .returned (.tuple #[.agg #[.int .i64 0, .int .i64 0, .string ⟨#[]⟩, .slice none 0 0], .bool false])) ∧ Below w.heap.size w w'
end Go.Proofs.Ythhimllddgfddaa
namespace Go.Proofs.Ythhimllddgfddaa
open Go.RowKit Go.PlainAid Go.Sort
set_option linter.unusedVariables false
set_option linter.unusedSimpArgs false
theorem bXs_rng2 (l : List Lf) (h : ∀ f ∈ l, InR f.n) : ∀ i, i ≤ l.length → ∀ x ∈ bXs (l.take i), x.rng := by
  intro i
  induction i with
  | zero => intro _ x hx; simp [bXs] at hx
  | succ i ih =>
    intro hi x hx
    have hf : l[i]? = some l[i] := List.getElem?_eq_getElem (by omega)
    rw [bXs_take hf] at hx
    rcases List.mem_append.1 hx with hx | hx
    · exact ih (by omega) x hx
    · rw [List.mem_singleton] at hx
      subst hx
      exact (Xp.rng_eq _).2 ⟨h _ (List.getElem_mem _), fun y hy => ih (by omega) y (pick_mem hy)⟩
/-- The last expression, taken apart. -/
theorem LastP.parts {w w' : World} {xs : List Xp} {e : Ending} (h : LastP w xs e w') : Below w.heap.size w w' ∧ ((∃ (x : Xp) (co : Option Addr) (ck : Nat) (xo xn : Int) (nm : ByteArray) (m : Nat), (x ∈ xs ∧ x.rgt = true ∧ x.knd ≠ 0 ∧ (∀ bo k, exV x bo k = .agg #[.int .i64 xo, .int .i64 xn, .string nm, .slice bo m k]) ∧ x.args.length ≤ ck ∧ ExL (fun b => w.heap.size ≤ b ∧ b < w'.heap.size) w' x.args co) ∧ e = .returned (.tuple #[.agg #[.int .i64 xo, .int .i64 xn, .string nm, .slice co m ck], .bool true])) ∨ e = .returned (.tuple #[.agg #[.int .i64 0, .int .i64 0, .string ⟨#[]⟩, .slice none 0 0], .bool false])) := by
  obtain ⟨⟨x, co, ck, h1, h2, h3, h4, h5, h6⟩ | h1, hb⟩ := h
  · exact ⟨hb, .inl ⟨x, co, ck, x.op, x.n, x.nm, x.args.length, ⟨h1, h2, h3, fun _ _ => rfl, h5, h6⟩, h4⟩⟩
  · exact ⟨hb, .inr h1⟩
end Go.Proofs.Ythhimllddgfddaa
namespace Go.Proofs.Ythhimllddgfddaa
open Go.ChangeShapes Go.WideShapes Go.RowKit Go.Deep Go.WideElems Go.Maps
set_option linter.unusedVariables false
set_option linter.unusedSimpArgs false
/-- An expression whose lists are bounded. -/
def PX (x : Xp) : Prop := x.fit ∧ x.thin ∧ x.dep ≤ 900 ∧ x.rng
def evF (F : List Fx) (day : Int) (x : Xp) : Vl := x.evl (fun s => seenF day s F) day
theorem evG_any {F : List Fx} {fa : Option Addr} {fc : Nat} {day : Int} (hl : F.length ≤ 200) (hd : InR day) (hF : FxIn F) : ∀ x, PX x → ∀ (S : Nat → Prop) (bo : Option Addr) (k : Nat) (V : World), (∀ b, S b → b < V.heap.size) → ExL S V x.args bo → x.args.length ≤ k → FxA S fa F V → Calls Try.prog 57 #[exV x bo k, .agg #[.int .i64 day, .slice fa F.length fc]] V fun e w' => e = .returned (vlV (evF F day x)) ∧ Below V.heap.size V w' := by
  rintro x ⟨h1, h2, h3, h4⟩ S bo k V hS hx hk hfx
  exact evalOf_any x bo k V hS hS worked_any hl hk hx h1 h2 h3 (fun _ => wok_in hd (seen_in hF day) x h4) hfx
theorem evG_in {F : List Fx} {day : Int} (hd : InR day) (hF : FxIn F) : ∀ x, PX x → in64 (evF F day x).n = true := by
  rintro x ⟨h1, h2, h3, h4⟩
  unfold evF Xp.evl
  split
  · have := ev_in hd (seen_in hF day) x h4
    exact (in64_iff _).2 this
  · decide
def Tr.alle (P : Xp → Prop) : Tr → Prop
  | .mk _ _ es l => (∀ x ∈ es, P x) ∧ alles P l
where alles (P : Xp → Prop) : List Tr → Prop
  | [] => True
  | x :: t => Tr.alle P x ∧ alles P t
theorem alles_all (P : Xp → Prop) (l : List Tr) : Tr.alle.alles P l ↔ ∀ y ∈ l, y.alle P := by
  induction l with
  | nil => simp [Tr.alle.alles]
  | cons x t ih => simp [Tr.alle.alles, ih]
theorem Tr.alle_eq (P : Xp → Prop) (t : Tr) : t.alle P ↔ (∀ x ∈ t.exprs, P x) ∧ ∀ y ∈ t.terms, y.alle P := by
  cases t
  simp [Tr.alle, alles_all, Tr.exprs, Tr.terms]
theorem blt_shp {t : Tr} (h : t.blt = true) : shp t.op t.exprs.length t.terms.length ∧ ∀ y ∈ t.terms, y.blt = true := by
  rw [t.blt_eq, tblts_all] at h
  simp only [Bool.and_eq_true, List.all_eq_true] at h
  obtain ⟨⟨h1, h2⟩, h3⟩ := h
  unfold okT at h1
  simp only [Bool.and_eq_true, decide_eq_true_eq] at h1
  obtain ⟨⟨h4, h5⟩, h6⟩ := h1
  refine ⟨?_, h3⟩
  unfold kidE at h4
  unfold kidT at h5
  unfold shp
  refine ⟨fun e => ?_, fun e => ?_, fun e => ?_, ?_, ?_⟩ <;> (repeat' split at h4) <;> (repeat' split at h5) <;> omega
theorem fine_of {P : Xp → Prop} (t : Tr) : t.blt = true → t.alle P → t.fine P := by
  induction t using Tr.ind with
  | h t IH =>
  intro hb ha
  obtain ⟨h1, h2⟩ := blt_shp hb
  obtain ⟨h3, h4⟩ := (t.alle_eq P).1 ha
  exact (t.fine_eq P).2 ⟨h1, h3, fun y hy => IH y hy (h2 y hy) (h4 y hy)⟩
theorem fine_kid {P : Xp → Prop} {t : Tr} (h : t.fine P) : ∀ y ∈ t.terms, y.fine P := ((t.fine_eq P).1 h).2.2
theorem fine_head {P : Xp → Prop} {t : Tr} (h : t.fine P) (h8 : t.op = 8) : P (t.exprs.headD x0) := by
  obtain ⟨h1, h2, _⟩ := (t.fine_eq P).1 h
  have := (h1.2.2.1 (.inr (.inr h8))).1
  cases he : t.exprs with
  | nil => rw [he] at this; simp at this
  | cons a r => exact h2 a (by rw [he]; simp)
end Go.Proofs.Ythhimllddgfddaa
namespace Go.Proofs.Ythhimllddgfddaa
open Go.ChangeShapes Go.WideShapes Go.RowKit Go.Deep Go.WideElems Go.Maps
set_option linter.unusedVariables false
set_option linter.unusedSimpArgs false
set_option maxRecDepth 100000 in
theorem great23_any (n k m : Nat) (ao bo fo : Option Addr) (ac bc fc : Nat) (day : Int) (w : World) (r : Bool) (hr : r = (decide (60 < n) || (decide (60 < k) || decide (60 < m)))) : Calls Try.prog 5 #[.slice ao n ac, .slice bo k bc, .agg #[.int .i64 day, .slice fo m fc]] w fun e w' => e = .returned (.bool r) ∧ Below w.heap.size w w' := by
  have GA := Lib.hid (two_made (.int .i64 day) (.slice fo m fc) 26 w)
  have hun : undef = Value.tuple #[] := rfl
  by_cases h1 : 60 < n
  · have i1 : (60 : Int) < (n : Int) := by omega
    obtain rfl : r = true := by rw [hr]; simp [h1]
    clear hr h1
    go_enter Try.func5, Try.ntmps5
    go_upto_region 1 with fail
    obtain ⟨W, hW⟩ : ∃ X, w.alloc (.cells #[.int .i64 day, .slice fo m fc] 26) = X := ⟨_, rfl⟩
    obtain ⟨g1, b1, _⟩ := GA.out W hW
    obtain ⟨e0, e1⟩ := duo b1
    rw [hW]
    go_wp2_with fail
    go_ret
    exact ⟨rfl, g1⟩
  · have i1 : ¬ (60 : Int) < (n : Int) := by omega
    by_cases h2 : 60 < k
    · have i2 : (60 : Int) < (k : Int) := by omega
      obtain rfl : r = true := by rw [hr]; simp [h2]
      clear hr h1 h2
      go_enter Try.func5, Try.ntmps5
      go_upto_region 1 with fail
      obtain ⟨W, hW⟩ : ∃ X, w.alloc (.cells #[.int .i64 day, .slice fo m fc] 26) = X := ⟨_, rfl⟩
      obtain ⟨g1, b1, _⟩ := GA.out W hW
      obtain ⟨e0, e1⟩ := duo b1
      rw [hW]
      go_wp2_with fail
      go_ret
      exact ⟨rfl, g1⟩
    · have i2 : ¬ (60 : Int) < (k : Int) := by omega
      by_cases h3 : 60 < m
      · have i3 : (60 : Int) < (m : Int) := by omega
        obtain rfl : r = true := by rw [hr]; simp [h3]
        clear hr h1 h2 h3
        go_enter Try.func5, Try.ntmps5
        go_upto_region 1 with fail
        obtain ⟨W, hW⟩ : ∃ X, w.alloc (.cells #[.int .i64 day, .slice fo m fc] 26) = X := ⟨_, rfl⟩
        obtain ⟨g1, b1, _⟩ := GA.out W hW
        obtain ⟨e0, e1⟩ := duo b1
        rw [hW]
        go_wp2_with fail
        go_ret
        exact ⟨rfl, g1⟩
      · have i3 : ¬ (60 : Int) < (m : Int) := by omega
        obtain rfl : r = false := by rw [hr]; simp [h1, h2, h3]
        clear hr h1 h2 h3
        go_enter Try.func5, Try.ntmps5
        go_upto_region 1 with fail
        obtain ⟨W, hW⟩ : ∃ X, w.alloc (.cells #[.int .i64 day, .slice fo m fc] 26) = X := ⟨_, rfl⟩
        obtain ⟨g1, b1, _⟩ := GA.out W hW
        obtain ⟨e0, e1⟩ := duo b1
        rw [hW]
        go_wp2_with fail
        go_ret
        exact ⟨rfl, g1⟩
end Go.Proofs.Ythhimllddgfddaa
namespace Go.Proofs.Ythhimllddgfddaa
open Go.RowKit Go.Maps
set_option linter.unusedVariables false
set_option linter.unusedSimpArgs false
theorem bTs_alle (P : Xp → Prop) (xs : List Xp) (hxs : ∀ x ∈ xs, P x) (l : List Kn) : ∀ i, i ≤ l.length → ∀ x ∈ bTs xs (l.take i), x.alle P := by
  intro i
  induction i with
  | zero => intro _ x hx; simp [bTs] at hx
  | succ i ih =>
    intro hi x hx
    have hf : l[i]? = some l[i] := List.getElem?_eq_getElem (by omega)
    rw [bTs_take hf] at hx
    rcases List.mem_append.1 hx with hx | hx
    · exact ih (by omega) x hx
    · rw [List.mem_singleton] at hx
      subst hx
      exact (Tr.alle_eq P _).2 ⟨fun y hy => hxs y (pick_mem hy), fun y hy => ih (by omega) y (pick_mem hy)⟩
theorem bXs_PX {ls : List Lf} (h1 : ∀ f ∈ ls, f.nm.size ≤ maxLen) (h2 : ∀ f ∈ ls, InR f.n) (hl : ls.length ≤ 100) : ∀ x ∈ bXs ls, PX x := by
  intro x hx
  have e : bXs ls = bXs (ls.take ls.length) := by rw [List.take_of_length_le (Nat.le_refl _)]
  rw [e] at hx
  have h3 := bXs_thin ls ls.length (Nat.le_refl _) x hx
  exact ⟨bXs_fit ls h1 ls.length (Nat.le_refl _) x hx, h3.1, by omega, bXs_rng2 ls h2 ls.length (Nat.le_refl _) x hx⟩
theorem bTs_PX {ls : List Lf} {ks : List Kn} (h1 : ∀ f ∈ ls, f.nm.size ≤ maxLen) (h2 : ∀ f ∈ ls, InR f.n) (hl : ls.length ≤ 100) : ∀ t ∈ bTs (bXs ls) ks, t.alle PX := by
  intro t ht
  have e : bTs (bXs ls) ks = bTs (bXs ls) (ks.take ks.length) := by rw [List.take_of_length_le (Nat.le_refl _)]
  rw [e] at ht
  exact bTs_alle PX (bXs ls) (bXs_PX h1 h2 hl) ks ks.length (Nat.le_refl _) t ht
/-- A term of Build's that is right is fine. -/
theorem bTs_fine {ls : List Lf} {ks : List Kn} (h1 : ∀ f ∈ ls, f.nm.size ≤ maxLen) (h2 : ∀ f ∈ ls, InR f.n) (hl : ls.length ≤ 100) {t : Tr} (ht : t ∈ bTs (bXs ls) ks) (hf : t.fts = 0) : t.fine PX := fine_of t (trgt_parts (fts_parts hf).1).2.2 (bTs_PX h1 h2 hl t ht)
/-- What holds of what comes of a fine, right term: for the next step. -/
theorem came_ok (ev : Xp → Vl) {t : Tr} {p : List Pt} {g : List Fw} (hft : t.fts = 0) (hfi : t.fine PX) (h : t.acq ev 1 false [] = some (p, g)) : (∀ y ∈ p, RgP y ∧ StOk PX y) ∧ sumC p ≤ t.cnt ∧ ∀ w ∈ g, in64 w.n = true := by
  have hd := (trgt_parts (fts_parts hft).1).2.1
  have k1 := acq_rgt ev t 1 false [] p g hft rfl (by simp; omega) h
  have k2 := acq_all ev (Q := fun t => t.fine PX) (PX := PX) (fun t ht => fine_kid ht) (fun t ht h8 => fine_head ht h8) t 1 false [] p g hfi (by decide) (fun x hx => by cases hx) h
  exact ⟨fun y hy => ⟨k1.1 y hy, (k2.1 y hy).1, (k2.1 y hy).2.1, (k2.1 y hy).2.2, by have := (k1.1 y hy).2.2.2; omega, by have := (k1.1 y hy).2.2.2; omega⟩, k1.2, k2.2⟩
theorem step_ok (ev : Xp → Vl) {P p : List Pt} {g : List Fw} (hP : ∀ y ∈ P, RgP y ∧ StOk PX y) (h : stp ev P = some (p, g)) : (∀ y ∈ p, (RgP y ∧ StOk PX y) ∧ StayP ev y) ∧ sumC p ≤ sumC P ∧ ∀ w ∈ g, in64 w.n = true := by
  have k1 := stp_rgt (fun y hy => (hP y hy).1) h
  have k2 := stp_all ev (Q := fun t => t.fine PX) (PX := PX) (fun t ht => fine_kid ht) (fun t ht h8 => fine_head ht h8) (fun y hy => ⟨(hP y hy).2.1, (hP y hy).2.2.1, (hP y hy).2.2.2.1⟩) h
  exact ⟨fun y hy => ⟨⟨(k1.1 y hy).1, (k2.1 y hy).1, (k2.1 y hy).2.1, (k2.1 y hy).2.2, by have := (k1.1 y hy).1.2.2.2; omega, by have := (k1.1 y hy).1.2.2.2; omega⟩, (k1.1 y hy).2⟩, k1.2, k2.2⟩
theorem fit_kid {t : Tr} (h : t.fit ∧ t.thin ∧ t.dep ≤ 900) : ∀ y ∈ t.terms, y.fit ∧ y.thin ∧ y.dep ≤ 900 := fun y hy => by
  obtain ⟨i, hi⟩ := List.mem_iff_getElem?.1 hy
  have hc := tcnts_in hi
  have e2 := t.dep_eq
  exact ⟨(tfits_all _).1 ((Tr.fit_eq t).1 h.1).2.2 y hy, (tthins_all _).1 ((Tr.thin_eq t).1 h.2.1).2.2 y hy, by omega⟩
/-- All that is asked of a part: for Right, for a step. -/
def OkP (y : Pt) : Prop := RgP y ∧ StOk PX y ∧ PtOk y
theorem okP_of {y : Pt} (h1 : RgP y) (h2 : StOk PX y) (h3 : y.t.fit ∧ y.t.thin ∧ y.t.dep ≤ 900) : OkP y :=
  ⟨h1, h2, h3.1, h3.2.1, h3.2.2, fun x hx => ⟨(h2.2.2.1 x hx).1, (h2.2.2.1 x hx).2.1, (h2.2.2.1 x hx).2.2.1⟩, by have := h2.2.2.2.1; omega⟩
theorem came_all (ev : Xp → Vl) {t : Tr} {p : List Pt} {g : List Fw} (hft : t.fts = 0) (hfi : t.fine PX) (hf : t.fit ∧ t.thin ∧ t.dep ≤ 900) (h : t.acq ev 1 false [] = some (p, g)) : (∀ y ∈ p, OkP y) ∧ sumC p ≤ t.cnt ∧ ∀ w ∈ g, in64 w.n = true := by
  have k1 := came_ok ev hft hfi h
  have k2 := acq_all ev (Q := fun t => t.fit ∧ t.thin ∧ t.dep ≤ 900) (PX := fun _ => True) (fun t ht => fit_kid ht) (fun _ _ _ => trivial) t 1 false [] p g hf (by decide) (fun _ _ => trivial) h
  exact ⟨fun y hy => okP_of (k1.1 y hy).1 (k1.1 y hy).2 (k2.1 y hy).1, k1.2⟩
theorem step_all (ev : Xp → Vl) {P p : List Pt} {g : List Fw} (hP : ∀ y ∈ P, OkP y) (h : stp ev P = some (p, g)) : (∀ y ∈ p, OkP y ∧ StayP ev y) ∧ sumC p ≤ sumC P ∧ ∀ w ∈ g, in64 w.n = true := by
  have k1 := step_ok ev (fun y hy => ⟨(hP y hy).1, (hP y hy).2.1⟩) h
  have k2 := stp_all ev (Q := fun t => t.fit ∧ t.thin ∧ t.dep ≤ 900) (PX := fun _ => True) (fun t ht => fit_kid ht) (fun _ _ _ => trivial) (fun y hy => ⟨⟨(hP y hy).2.2.1, (hP y hy).2.2.2.1, (hP y hy).2.2.2.2.1⟩, (hP y hy).2.1.2.1, fun _ _ => trivial⟩) h
  exact ⟨fun y hy => ⟨okP_of (k1.1 y hy).1.1 (k1.1 y hy).1.2 (k2.1 y hy).1, (k1.1 y hy).2⟩, k1.2⟩
end Go.Proofs.Ythhimllddgfddaa
