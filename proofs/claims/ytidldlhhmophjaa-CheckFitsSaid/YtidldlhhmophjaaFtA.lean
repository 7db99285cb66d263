/- Layer 21: paths that grow in place; the deepest expression without a kind. Conditions: those written at each theorem. -/
import Derived.Test.YtidldlhhmophjaaCkK
import Derived.Deep.DeepAppendRoom
import Derived.Deep.RegionHeld3
namespace Go.Proofs.Ytidldlhhmophjaa
open Go.RowKit Go.PlainAid Go.Sort
set_option linter.unusedVariables false
set_option linter.unusedSimpArgs false
/-- A path: a row of the call's own. -/
def PI (w : World) (B : Nat) (va : Option Addr) (n c : Nat) (l : List Int) : Prop := w.ownsRow B 3 1 (.slice va n c) n (ivs l)
theorem PI.len {w : World} {B : Nat} {va : Option Addr} {n c : Nat} {l : List Int} (h : PI w B va n c l) : l.length = n := by have := h.1; simpa [ivs] using this
theorem PI.next {w w' : World} {B : Nat} {va : Option Addr} {n c : Nat} {l : List Int} (h : PI w B va n c l) (k : Below w.heap.size w w') : PI w' B va n c l := row_stay h fun g hg => k.block g (row_ltN h hg).1
theorem PI.keep {w w' : World} {B : Nat} {va : Option Addr} {n c : Nat} {l : List Int} (h : PI w B va n c l) {row : Option Nat} (k : w.grownBy w' row) (hne : ∀ g, (Value.slice va n c).ownBlock = some g → some g ≠ row) : PI w' B va n c l := row_stay h fun g hg => k.block g (row_ltN h hg).1 (hne g hg)
theorem pintInfo : (Try.prog.info? 3).map (fun i => (i.zero, i.size, i.bytes)) = some (some (.int .i64 0), 1, 8) := by kernel_rfl
theorem ivs_snoc (l : List Int) (f : Int) : ivs (l ++ [f]) = ivs l ++ [.int .i64 f] := by simp [ivs]
/-- What lay ahead of an append lies there still. -/
theorem run_app_path {w : World} (ty : TypeId) {B : Nat} {va : Option Addr} {n c : Nat} {l : List Int} (h : PI w B va n c l) (f : Int) (g : Nat) (hc : w.cell? ⟨g, 0, none⟩ = some (.int .i64 f)) (hn : n ≤ 10000) (hB : B ≤ w.heap.size) :
    ∃ g' cap w', (Builtin.append_ #[26, 26] ty #[.slice va n c, .slice (some ⟨g, 0, none⟩) 1 1]).run Try.prog w = .ok (.slice (some ⟨g', 0, none⟩) (n + 1) cap) w' ∧ PI w' B (some ⟨g', 0, none⟩) (n + 1) cap (l ++ [f]) ∧ PI w' B va n c l ∧ w.grownBy w' (Value.slice va n c).ownBlock ∧ ((Value.slice va n c).ownBlock = some g' ∧ cap = c ∨ g' = w.heap.size) := by
  obtain ⟨i, hi, hz0, hz1, hz2⟩ := info_parts pintInfo
  have hnews : ∀ j u, [Value.int .i64 f][j]? = some u → w.cell? ((⟨g, 0, none⟩ : Addr).add j) = some u := by
    intro j u hj
    match j, hj with
    | 0, hj => simp at hj; subst hj; rw [addr_zero]; exact hc
    | j + 1, hj => simp at hj
  have h1 : ∀ u ∈ [Value.int .i64 f], u.oneCell' = true := by intro u hu; simp at hu; subst hu; rfl
  rcases h.2 with ⟨hv, h0⟩ | ⟨q, cap, cur, hv, hb, hg, hcap, hmx, hsz, htk⟩
  · injection hv with e1 e2 e3
    subst e1 e2 e3
    obtain ⟨g', cap, w', hr, h2, h3, h4, h5⟩ := run_append_lies (P := Try.prog) w 26 ty B 3 i (.int .i64 0) 1 8 Try.underlying26 hi hz0 hz1 hz2 rfl (by decide) (.slice none 0 0) 0 (ivs l) h ⟨g, 0, none⟩ 1 1 [.int .i64 f] rfl hnews h1 (by decide) (by unfold maxLen; omega) (by omega) hB _ rfl
    refine ⟨g', cap, w', hr, ?_, ⟨h.1, .inl ⟨rfl, rfl⟩⟩, h3, .inr ?_⟩
    · unfold PI; rw [ivs_snoc]; exact h2
    · rcases h4 with h4 | h4
      · cases h4
      · exact h4
  · injection hv with e1 e2 e3
    subst e1 e3
    by_cases hroom : n + 1 ≤ c
    · obtain ⟨w', hr, h2, h3⟩ := run_append_own_spare (P := Try.prog) w B 26 ty 3 i 1 Try.underlying26 hi hz1 q n c (ivs l) h ⟨g, 0, none⟩ 1 1 [.int .i64 f] rfl hnews h1 hroom
      refine ⟨q, c, w', hr, by unfold PI; rw [ivs_snoc]; exact h2, ?_, h3, .inl ⟨rfl, rfl⟩⟩
      rcases h2.2 with ⟨hv2, _⟩ | ⟨q2, cap2, cur2, hv2, hb2, hg2, hc2, hm2, hs2, ht2⟩
      · cases hv2
      · injection hv2 with e1 e2 e3
        injection e1 with e1
        injection e1 with e1
        subst e1 e3
        refine ⟨h.1, .inr ⟨q, c, cur2, rfl, hb2, hg2, by omega, hm2, hs2, ?_⟩⟩
        have hln := h.1
        have : (cur2.toList.take ((n + 1) * 1)).take (n * 1) = ivs l := by
          rw [ht2, List.take_left' (by simpa using hln)]
        rw [List.take_take, show min (n * 1) ((n + 1) * 1) = n * 1 from by omega] at this
        exact this
    · have holds : ∀ j u, (ivs l)[j]? = some u → w.cell? ((⟨q, 0, none⟩ : Addr).add j) = some u := World.ownsRow.cells (g := q) h rfl
      have hz1' := hz1
      have hr := run_append_grow (P := Try.prog) w 26 ty 3 i (.int .i64 0) Try.underlying26 hi hz0 ⟨q, 0, none⟩ n c (ivs l) (by rw [hz1]; exact h.1) holds ⟨g, 0, none⟩ 1 1 [.int .i64 f] (by rw [hz1]; rfl) hnews (by omega) (by omega) (growslice_fits (by omega) (by rw [hz2]; omega))
      have hge := grownCap_ge w (n + 1) c 3
      have hcm : grownCap w (n + 1) c 3 ≤ maxLen := grownCap_le_maxLen w (n + 1) c 3 (by unfold maxLen; omega)
      refine ⟨w.heap.size, _, _, hr, ?_, ?_, ⟨rfl, rfl, rfl, by simp, fun k hk _ => Below.heap_alloc _ _ _ hk⟩, .inr rfl⟩
      · unfold PI
        rw [ivs_snoc]
        refine ⟨by simp [ivs, h.len], .inr ⟨w.heap.size, _, _, rfl, hB, heap_alloc_new w.drew _, hge, hcm, ?_, ?_⟩⟩
        · simp only [Array.size_append, List.size_toArray, size_zeroCells, h.1]
          have : (Value.int IntKind.i64 0).cells.size = 1 := rfl
          rw [this]
          simp
          omega
        · simp only [Array.toList_append, List.append_assoc]
          rw [← List.append_assoc]
          exact List.take_left' (by simp [ivs, h.len])
      · exact row_stay h fun k hk => by cases hk; exact Below.heap_alloc _ _ _ (lt_of_heap hg)
theorem step_appP {w : World} {ops : Array Oper} {o : Oper} {a : Act} {K : Act → World → Prop} {Q : Exit → Act → World → Prop} {E : Prop} (hgd : o.guard = none) (s x : Operand)
    (ho : o.op = .call { callee := .builtin .append, args := #[s, x], argTypes := #[26, 26] })
    (B : Nat) (va : Option Addr) (n c : Nat) (l : List Int) (f : Int) (hs : a.eval s = .slice va n c) (hown : PI w B va n c l) (g : Nat) (hx : a.eval x = .slice (some ⟨g, 0, none⟩) 1 1)
    (hc : w.cell? ⟨g, 0, none⟩ = some (.int .i64 f)) (hn : n ≤ 10000) (hB : B ≤ w.heap.size)
    (h : ∀ g' cap w', PI w' B (some ⟨g', 0, none⟩) (n + 1) cap (l ++ [f]) → PI w' B va n c l → w.grownBy w' (Value.slice va n c).ownBlock → ((Value.slice va n c).ownBlock = some g' ∧ cap = c ∨ g' = w.heap.size) → K (a.put o.dst (.slice (some ⟨g', 0, none⟩) (n + 1) cap)) w') :
    if Region.wanted o (yielded ops a.tmps) = true then Oper.wp Try.prog o a w K Q else E := by
  have hw : Region.wanted o (yielded ops a.tmps) = true := by unfold Region.wanted; rw [hgd]
  rw [if_pos hw]
  obtain ⟨g', cap, w', hr, h2, h3, h4, h5⟩ := run_app_path o.type hown f g hc hn hB
  unfold Oper.wp execOp
  simp only [ho, resolve, invoke, builtin, Sem.run_bind, Sem.run_pure, Result.andThen_ok, List.map_toArray, List.map_cons, List.map_nil, hs, hx, hr]
  exact h g' cap w' h2 h3 h4 h5
/-- Where the deepest expression without a kind stands. -/
def Xp.dst : Xp → List Int
  | .mk _ _ _ l => dsts 0 l
where dsts : Int → List Xp → List Int
  | _, [] => []
  | i, y :: t => if y.knd = 0 then i :: y.dst else dsts (i + 1) t
theorem Xp.dst_eq (x : Xp) : x.dst = Xp.dst.dsts 0 x.args := by cases x; rfl
theorem dsts_drop {l : List Xp} {j : Nat} {y : Xp} (h : l[j]? = some y) (i : Int) : Xp.dst.dsts i (l.drop j) = if y.knd = 0 then i :: y.dst else Xp.dst.dsts (i + 1) (l.drop (j + 1)) := by
  obtain ⟨hl, rfl⟩ := List.getElem?_eq_some_iff.1 h
  rw [List.drop_eq_getElem_cons hl]
  rfl
end Go.Proofs.Ytidldlhhmophjaa
namespace Go.Proofs.Ytidldlhhmophjaa
open Go.RowKit Go.PlainAid Go.Sort
set_option linter.unusedVariables false
set_option linter.unusedSimpArgs false
theorem grown_path {w a b : World} {row : Option Nat} {g' : Nat} (h : w.grownBy a row) (k : a.grownBy b (some g')) (hg : row = some g' ∨ w.heap.size ≤ g') : w.grownBy b row :=
  ⟨k.os.trans h.os, k.tape.trans h.tape, k.output.trans h.output, Nat.le_trans h.size k.size, fun i hi hne => (k.block i (Nat.lt_of_lt_of_le hi h.size) (by intro e; cases e; rcases hg with hg | hg; exact hne hg.symm; omega)).trans (h.block i hi hne)⟩
theorem grown_below {w a : World} (h : Below w.heap.size w a) (row : Option Nat) : w.grownBy a row := ⟨h.os, h.tape, h.output, h.size, fun k hk _ => h.block k hk⟩
theorem grown_more {w a b : World} {row : Option Nat} (h : w.grownBy a row) (k : a.grownBy b row) : w.grownBy b row :=
  ⟨k.os.trans h.os, k.tape.trans h.tape, k.output.trans h.output, Nat.le_trans h.size k.size, fun i hi hne => (k.block i (Nat.lt_of_lt_of_le hi h.size) hne).trans (h.block i hi hne)⟩
/-- What is answered of a path. -/
def DpP (B : Nat) (row : Option Nat) (l : List Int) (w : World) (e : Ending) (w' : World) : Prop := (∃ qa qn qc, e = .returned (.slice qa qn qc) ∧ PI w' B qa qn qc l) ∧ w.grownBy w' row
set_option maxRecDepth 100000 in
set_option maxHeartbeats 8000000 in
theorem deepest_any {S : Nat → Prop} {B : Nat} (hS : ∀ b, S b → b < B) (x : Xp) : ∀ (bo : Option Addr) (k : Nat) (w : World) (pa : Option Addr) (pn pc : Nat) (path : List Int), B ≤ w.heap.size → x.blt = true → x.args.length ≤ k → ExL S w x.args bo → PI w B pa pn pc path → pn + x.dep ≤ 9000 →
    Calls Try.prog 75 #[exV x bo k, .slice pa pn pc] w (DpP B (Value.slice pa pn pc).ownBlock (path ++ x.dst) w) := by
  induction x using Xp.ind with
  | h x IH =>
  intro bo k w pa pn pc path hB hb hk hx hp hn
  obtain ⟨hlen, _, hbl⟩ := xblt_len hb
  have hds := x.dst_eq
  have hde := x.dep_eq
  obtain ⟨l, hl'⟩ : ∃ l, l = x.args := ⟨_, rfl⟩
  rw [← hl'] at IH hk hx hlen hbl hds hde
  have HX : Hid (∀ W, Below w.heap.size w W → ExL S W l bo) := Lib.hid fun W hW => hx.stay (fun _ h => h) fun b hb => hW.block b (by have := hS b hb; omega)
  have CK : Hid (∀ y ∈ l, ∀ (co : Option Addr) (ck : Nat), y.args.length ≤ ck → ∀ W, Below w.heap.size w W → ExL S W y.args co → Calls Try.prog 48 #[exV y co ck] W fun e w' => e = .returned (.int .i64 (y.knd : Nat)) ∧ Below W.heap.size W w') := Lib.hid fun y hy co ck h1 W hW h2 => kind_any (S := S) (B := B) hS y co ck W (by have := hW.size; omega) (hbl y hy) h1 h2
  have HI := Lib.hid IH
  have HBL := Lib.hid hbl
  have HDS := Lib.hid hds
  have HA := Lib.hid (And.intro hB (And.intro hn hde))
  have HP := Lib.hid hp
  obtain ⟨m, hm⟩ : ∃ m, m = l.length := ⟨_, rfl⟩
  have HM := Lib.hid hm
  have hm3 : m ≤ 3 := by
    have : kidX x.op ≤ 3 := by unfold kidX; repeat' split <;> omega
    omega
  obtain ⟨xo, hxo⟩ : ∃ v, v = x.op := ⟨_, rfl⟩
  obtain ⟨xn, hxn⟩ : ∃ v, v = x.n := ⟨_, rfl⟩
  obtain ⟨xs, hxs⟩ : ∃ v, v = x.nm := ⟨_, rfl⟩
  rw [show exV x bo k = .agg #[.int .i64 xo, .int .i64 xn, .string xs, .slice bo m k] from by rw [hm, hl', hxo, hxn, hxs]]
  obtain ⟨RES, hRES⟩ : ∃ v, v = path ++ x.dst := ⟨_, rfl⟩
  rw [← hRES]
  have HR := Lib.hid hRES
  have GA := Lib.hid (cells_made #[.int .i64 xo, .int .i64 xn, .string xs, .slice bo m k] 34 w)
  clear IH hB hb hk hx hp hn hlen hbl hl' hm hxo hxn hxs hRES hds hde
  go_enter Try.func75, Try.ntmps75
  go_upto_region 1 with fail
  obtain ⟨z, hz⟩ : ∃ z, z = w.heap.size := ⟨_, rfl⟩
  obtain ⟨W, hW⟩ : ∃ X, w.alloc (.cells #[.int .i64 xo, .int .i64 xn, .string xs, .slice bo m k] 34) = X := ⟨_, rfl⟩
  obtain ⟨g1, b1, s1⟩ := GA.out W hW
  rw [hW, ← hz]
  rw [← hz] at b1
  have HG := Lib.hid g1
  have HB1 := Lib.hid b1
  obtain ⟨c0, c1, c2, c3⟩ := quad b1
  clear hW g1 b1 s1 GA hz
  go_upto_region 2 with fail
  clear c0 c1 c2 c3
  go_loopw [10] (fun v wr => ∃ j : Nat, j ≤ m ∧ v = .int .i64 j ∧ Hid (RES = path ++ Xp.dst.dsts (j : Int) (l.drop j) ∧ Below W.heap.size W wr)) (fun v _ => m - (intOf v).toNat)
  case atStart => exact ⟨0, by omega, rfl, Lib.hid ⟨by rw [HR.out, HDS.out]; rfl, Below.refl _ _⟩⟩
  case round =>
    obtain ⟨j, hj, rfl, HRW⟩ := hrel
    have HWW := Lib.hid (below_mono HG.out HRW.out.2 (Nat.le_refl _))
    by_cases hlt : j < m
    · obtain ⟨y, hy⟩ : ∃ y, l[j]? = some y := ⟨_, List.getElem?_eq_getElem (by rw [← HM.out]; exact hlt)⟩
      have hmem := List.mem_of_getElem? hy
      have hdi := (cnts_in hy).2
      obtain ⟨a, co, ck, rfl, hsa, hck, ⟨y0, y1, y2, y3⟩, hyl⟩ := (HX.out wr HWW.out).get hy
      have HD : Hid (Xp.dst.dsts (j : Int) (l.drop j) = if y.knd = 0 then (j : Int) :: y.dst else Xp.dst.dsts ((j : Int) + 1) (l.drop (j + 1))) := Lib.hid (dsts_drop hy j)
      have CKy : Hid (∀ V, Below wr.heap.size wr V → Calls Try.prog 48 #[exV y co ck] V fun e w' => e = .returned (.int .i64 (y.knd : Nat)) ∧ Below V.heap.size V w') := Lib.hid fun V hV => CK.out y hmem co ck hck V (below_mono HWW.out hV (Nat.le_refl _)) (hyl.stay (fun _ h => h) fun b hb => hV.block b (by have := hS b hb; have := HA.out.1; have := HWW.out.size; omega))
      have CD : Hid (∀ V va n c p2, w.heap.size ≤ V.heap.size → (∀ b, S b → V.heap[b]? = wr.heap[b]?) → PI V B va n c p2 → n = pn + 1 → Calls Try.prog 75 #[exV y co ck, .slice va n c] V (DpP B (Value.slice va n c).ownBlock (p2 ++ y.dst) V)) := Lib.hid fun V va n c p2 hs hV hp hn => HI.out y hmem co ck V va n c p2 (by have := HA.out.1; omega) (HBL.out y hmem) hck (hyl.stay (fun _ h => h) hV) hp (by
        have := HA.out.2
        omega)
      obtain ⟨kn, hkn⟩ : ∃ v, v = y.knd := ⟨_, rfl⟩
      obtain ⟨yd, hyd⟩ : ∃ v, v = y.dst := ⟨_, rfl⟩
      rw [← hkn, ← hyd] at HD
      rw [← hkn] at CKy
      rw [← hyd] at CD
      obtain ⟨cm, hcm⟩ : ∃ c, c = y.args.length := ⟨_, rfl⟩
      obtain ⟨yo, hyo⟩ : ∃ v, v = y.op := ⟨_, rfl⟩
      obtain ⟨yn, hyn⟩ : ∃ v, v = y.n := ⟨_, rfl⟩
      obtain ⟨ys, hys⟩ : ∃ v, v = y.nm := ⟨_, rfl⟩
      have hye : exV y co ck = .agg #[.int .i64 yo, .int .i64 yn, .string ys, .slice co cm ck] := by rw [hcm, hyo, hyn, hys]
      rw [hye] at CKy CD
      rw [← hcm] at y3
      rw [← hyo] at y0
      rw [← hyn] at y1
      rw [← hys] at y2
      obtain ⟨⟨r0, r1, r2, r3⟩, p0, p1, p2, p3⟩ := new_zero wr (.int .i64 0) (.int .i64 0) (.string ⟨#[]⟩) (.slice none 0 0) 34
      have j0 : (0 : Int) ≤ (j : Int) := by omega
      have j1 : (j : Int) < (m : Int) := by omega
      clear hcm hyo hyn hys hsa hck hyl hy hmem hkn hyd hye hdi
      go_upto_region 4 with fail
      clear r0 r1 r2 r3 p0 p1 p2 p3 y0 y1 y2 y3
      obtain ⟨W3, hW3⟩ : ∃ X, wr.alloc (.cells #[.int .i64 yo, .int .i64 yn, .string ys, .slice co cm ck] 34) = X := ⟨_, rfl⟩
      obtain ⟨g3, b3, s3⟩ := cells_made _ _ _ W3 hW3
      obtain ⟨u, hu⟩ : ∃ u, u = wr.heap.size := ⟨_, rfl⟩
      rw [hW3, ← hu]
      rw [← hu] at b3
      have HG3 : Hid (Below wr.heap.size wr W3) := Lib.hid g3
      have HB3 := Lib.hid b3
      obtain ⟨y0, y1, y2, y3⟩ := quad b3
      have HUQ := Lib.hid hu
      clear g3 b3 s3 hW3 hu
      by_cases hk0 : kn = 0
      · have CK0 : Hid (∀ V, Below wr.heap.size wr V → Calls Try.prog 48 #[.agg #[.int .i64 yo, .int .i64 yn, .string ys, .slice co cm ck]] V fun e w' => e = .returned (.int .i64 0) ∧ Below V.heap.size V w') := by rw [hk0] at CKy; exact CKy
        have HRES : Hid (RES = (path ++ [(j : Int)]) ++ yd) := Lib.hid (by rw [HRW.out.1, HD.out, if_pos hk0]; simp)
        clear CKy HD hk0
        go_upto_region 5 with (go_at_call 48; (with_reducible refine (CK0.out _ HG3.out).mono ?_); rintro e w4 ⟨rfl, hb⟩; have HB4 := Lib.hid hb; clear hb y0 y1 y2 y3)
        have HW4 : Hid (Below w.heap.size w w4 ∧ Below wr.heap.size wr w4) := Lib.hid ⟨below_mono (below_mono HWW.out HG3.out (Nat.le_refl _)) HB4.out (Nat.le_refl _), below_mono HG3.out HB4.out (Nat.le_refl _)⟩
        have HU4 : Hid (u < w4.heap.size ∧ w.heap.size ≤ u ∧ (w4.alloc (.cells #[.int .i64 j] 3)).drew.heap.size = w4.heap.size + 1) := Lib.hid ⟨Nat.lt_of_lt_of_le (lt_of_heap HB3.out) HB4.out.size, by rw [HUQ.out]; exact HWW.out.size, by show (w4.alloc _).heap.size = _; simp⟩
        have HBX : Hid (∀ V : World, V.heap[u]? = w4.heap[u]? → V.cell? ⟨u, 0, none⟩ = some (.int .i64 yo) ∧ V.cell? ⟨u, 1, none⟩ = some (.int .i64 yn) ∧ V.cell? ⟨u, 2, none⟩ = some (.string ys) ∧ V.cell? ⟨u, 3, none⟩ = some (.slice co cm ck)) := Lib.hid fun V hV => quad (hV.trans ((HB4.out.block u (lt_of_heap HB3.out)).trans HB3.out))
        have HPA : Hid (PI (w4.alloc (.cells #[.int .i64 j] 3)).drew B pa pn pc path) := Lib.hid (HP.out.next (HW4.out.1.alloc HW4.out.1.size _).drew)
        have HPN : Hid (pn ≤ 10000 ∧ B ≤ (w4.alloc (.cells #[.int .i64 j] 3)).drew.heap.size ∧ w.heap.size ≤ (w4.alloc (.cells #[.int .i64 j] 3)).drew.heap.size) := Lib.hid ⟨by have := HA.out.2.1; omega, by have := HA.out.1; have := ((HW4.out.1.alloc HW4.out.1.size (.cells #[.int .i64 j] 3)).drew).size; omega, ((HW4.out.1.alloc HW4.out.1.size _).drew).size⟩
        have HTR : Hid (∀ b, S b → (w4.alloc (.cells #[.int .i64 j] 3)).drew.heap[b]? = wr.heap[b]? ∧ b < w.heap.size) := Lib.hid fun b hb => by
          have h1 := hS b hb
          have h2 := HA.out.1
          have h3 := HWW.out.size
          exact ⟨(HW4.out.2.alloc HW4.out.2.size (.cells #[.int .i64 j] 3)).block b (by omega), by omega⟩
        go_region_held3 (fun V => V.cell? ⟨u, 0, none⟩ = some (.int .i64 yo) ∧ V.cell? ⟨u, 1, none⟩ = some (.int .i64 yn) ∧ V.cell? ⟨u, 2, none⟩ = some (.string ys) ∧ V.cell? ⟨u, 3, none⟩ = some (.slice co cm ck))
          (first | exact HBX.out _ HU6.out | exact HBX.out _ HU5.out | exact HBX.out _ (Below.heap_alloc _ _ _ HU4.out.1) | exact HBX.out _ rfl)
          (first
            | (refine step_appP rfl _ _ rfl B pa pn pc path (j : Int) rfl HPA.out w4.heap.size rfl (cell_blk (show (w4.alloc (.cells #[.int .i64 j] 3)).drew.heap[w4.heap.size]? = _ from heap_alloc_new w4 _) 0) HPN.out.1 HPN.out.2.1 ?_; intro g' cap' w5 hq1 hq2 hq3 hq4; have HQ := Lib.hid (And.intro hq1 (And.intro hq2 (And.intro hq3 hq4))); have HU5 : Hid (w5.heap[u]? = w4.heap[u]?) := Lib.hid ((hq3.block u (by have := HU4.out; omega) (by intro e; have := (row_ltN HP.out e.symm).1; have := HU4.out.2.1; omega)).trans (Below.heap_alloc _ _ _ HU4.out.1)); have HT5 : Hid (∀ b, S b → w5.heap[b]? = wr.heap[b]?) := Lib.hid (fun b hb => (hq3.block b (by have := (HTR.out b hb).2; have := HPN.out.2.2; omega) (by intro e; have := (row_ltN HP.out e.symm).2; have := hS b hb; omega)).trans (HTR.out b hb).1); clear hq1 hq2 hq3 hq4)
            | (go_at_call 75; (with_reducible refine (CD.out w5 (some ⟨g', 0, none⟩) (pn + 1) cap' (path ++ [(j : Int)]) (Nat.le_trans HPN.out.2.2 HQ.out.2.2.1.size) HT5.out HQ.out.1 rfl).mono ?_); rintro e w6 ⟨⟨qa, qn, qc, rfl, hq5⟩, hq6⟩; have HQ6 := Lib.hid (And.intro hq5 hq6); have HU6 : Hid (w6.heap[u]? = w4.heap[u]?) := Lib.hid ((hq6.block u (by have := HU4.out; have := HQ.out.2.2.1.size; omega) (by intro e; have e' : u = g' := Option.some.inj e; have := HQ.out.2.2.2; rcases this with h | h; have := (row_ltN HP.out h.1).1; have := HU4.out.2.1; omega; have := HU4.out; omega)).trans HU5.out); clear hq5 hq6))
        all_goals
          go_wp2_with fail
          go_ret
          exact ⟨⟨qa, qn, qc, rfl, by rw [HRES.out]; exact HQ6.out.1⟩, grown_path (grown_more (grown_below (HW4.out.1.alloc HW4.out.1.size _).drew _) HQ.out.2.2.1) HQ6.out.2 (by rcases HQ.out.2.2.2 with h | h; exact .inl h.1; right; rw [h]; exact HPN.out.2.2)⟩
      · have hkb : ((kn : Int) == 0) = false := by simp; omega
        have HRES : Hid (RES = path ++ Xp.dst.dsts ((j : Int) + 1) (l.drop (j + 1))) := Lib.hid (by rw [HRW.out.1, HD.out, if_neg hk0])
        clear HD hk0
        obtain ⟨K, hK⟩ : ∃ K : Int, K = (kn : Nat) := ⟨_, rfl⟩
        rw [← hK] at CKy hkb
        clear hK
        go_wp2_with (go_at_call 48; (with_reducible refine (CKy.out _ HG3.out).mono ?_); rintro e w4 ⟨rfl, hb⟩; have HB4 := Lib.hid hb; clear hb y0 y1 y2 y3)
        go_roundw
        case rel => exact ⟨j + 1, by omega, by go_num, Lib.hid ⟨by rw [HRES.out]; push_cast; rfl, below_mono (below_mono HRW.out.2 HG3.out (Nat.le_refl _)) HB4.out (Nat.le_refl _)⟩⟩
        case measure => simp [intOf]; omega
    · obtain rfl : j = m := by omega
      go_wp2_with fail
      go_ret
      refine ⟨⟨pa, pn, pc, rfl, ?_⟩, grown_below HWW.out _⟩
      rw [HRW.out.1, List.drop_eq_nil_of_le (by rw [HM.out]; exact Nat.le_refl _)]
      show PI wr B pa pn pc (path ++ [])
      rw [List.append_nil]
      exact HP.out.next HWW.out
end Go.Proofs.Ytidldlhhmophjaa
