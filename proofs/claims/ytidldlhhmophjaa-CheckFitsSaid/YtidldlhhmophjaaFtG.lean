/- Layer 21: the first fault of a right term, by the document. Conditions: those written at each theorem. -/
import Derived.Test.YtidldlhhmophjaaFtF
namespace Go.Proofs.Ytidldlhhmophjaa
open Go.RowKit Go.PlainAid Go.Sort
set_option linter.unusedVariables false
set_option linter.unusedSimpArgs false
theorem fltX_take {nd : Int} {l : List Xp} {y : Xp} : ∀ {j : Nat} {i : Int}, l[j]? = some y → fltX nd i (l.take (j + 1)) = match fltX nd i (l.take j) with | some p => some p | none => if (y.knd : Int) = nd then none else some ((i + j) :: (if y.knd = 0 then y.dst else [])) := by
  induction l with
  | nil => intro j i h; simp at h
  | cons a t ih =>
    intro j i h
    cases j with
    | zero =>
      simp at h
      subst h
      simp [fltX]
    | succ j =>
      have h' : t[j]? = some y := by simpa using h
      have := ih (i := i + 1) h'
      simp only [List.take_succ_cons, fltX]
      by_cases hk : (a.knd : Int) = nd
      · rw [if_pos hk, if_pos hk, this, show i + 1 + (j : Int) = i + ((j + 1 : Nat) : Int) from by push_cast; omega]
      · rw [if_neg hk, if_neg hk]
theorem flts_take {l : List Tr} {y : Tr} : ∀ {j : Nat} {i : Int}, l[j]? = some y → Tr.flt.flts i (l.take (j + 1)) = match Tr.flt.flts i (l.take j) with | some p => some p | none => y.flt.map fun p => (i + j) :: p := by
  induction l with
  | nil => intro j i h; simp at h
  | cons a t ih =>
    intro j i h
    cases j with
    | zero =>
      simp at h
      subst h
      simp only [List.take_succ_cons, List.take_zero, Tr.flt.flts]
      cases a.flt <;> simp
    | succ j =>
      have h' : t[j]? = some y := by simpa using h
      have := ih (i := i + 1) h'
      simp only [List.take_succ_cons, Tr.flt.flts]
      cases a.flt with
      | some p => rfl
      | none =>
        show Tr.flt.flts (i + 1) (t.take (j + 1)) = match Tr.flt.flts (i + 1) (t.take j) with | some p => some p | none => _
        rw [this, show i + 1 + (j : Int) = i + ((j + 1 : Nat) : Int) from by push_cast; omega]
theorem fltX_len {nd : Int} {l : List Xp} : ∀ {i : Int} {p : List Int}, fltX nd i l = some p → p.length ≤ 1 + Xp.dep.deps l := by
  induction l with
  | nil => intro i p h; simp [fltX] at h
  | cons a t ih =>
    intro i p h
    unfold fltX at h
    unfold Xp.dep.deps
    split at h
    · have := ih h; omega
    · injection h with h
      subst h
      have := dst_len a
      split <;> simp <;> omega
theorem flt_len (x : Tr) : ∀ p, x.flt = some p → p.length ≤ x.dep := by
  induction x using Tr.ind with
  | h x IH =>
  intro p hp
  rw [x.flt_eq] at hp
  rw [x.dep_eq]
  split at hp
  · rename_i q hq
    injection hp with hp
    subst hp
    have := fltX_len hq
    omega
  · have : ∀ (l : List Tr) (i : Int) (p : List Int), (∀ y ∈ l, ∀ p, y.flt = some p → p.length ≤ y.dep) → Tr.flt.flts i l = some p → p.length ≤ 1 + Tr.dep.deps l := by
      intro l
      induction l with
      | nil => intro i p _ h; simp [Tr.flt.flts] at h
      | cons a t ih =>
        intro i p h1 h
        unfold Tr.flt.flts at h
        unfold Tr.dep.deps
        cases ha : a.flt with
        | some q =>
          rw [ha] at h
          injection h with h
          subst h
          have := h1 a (by simp) q ha
          simp; omega
        | none =>
          rw [ha] at h
          have := ih (i + 1) p (fun y hy => h1 y (by simp [hy])) h
          omega
    have := this _ _ _ IH hp
    omega
def f2 (a b : Option (List Int)) : Option (List Int) := match a with | some p => some p | none => b
theorem f2_take {fx : Option (List Int)} {l : List Tr} {y : Tr} {j : Nat} {i : Int} (h : l[j]? = some y) : f2 fx (Tr.flt.flts i (l.take (j + 1))) = match f2 fx (Tr.flt.flts i (l.take j)) with | some p => some p | none => y.flt.map fun p => (i + j) :: p := by
  cases fx with
  | some p => rfl
  | none => exact flts_take h
set_option maxRecDepth 100000 in
set_option maxHeartbeats 32000000 in
theorem rfault_any {S : Nat → Prop} {B : Nat} (hS : ∀ b, S b → b < B) (x : Tr) : ∀ (eo : Option Addr) (ek : Nat) (tb : Option Addr) (tk : Nat) (w : World) (pa : Option Addr) (pn pc : Nat) (path : List Int), B ≤ w.heap.size → x.blt = true → TrOk S w x eo ek tb tk → x.cnt < 1000 → StI pa pn pc path w → pn + x.dep ≤ 9000 →
    Calls Try.prog 22 #[trV x eo ek tb tk, .slice pa pn pc] w (ExP path x.flt w) := by
  induction x using Tr.ind with
  | h x IH =>
  intro eo ek tb tk w pa pn pc path hB hb ht hcn hp hn
  have hbe := x.blt_eq
  rw [hb, tblts_all] at hbe
  have hbe2 := hbe.symm
  simp only [Bool.and_eq_true, List.all_eq_true] at hbe2
  have hfl := x.flt_eq
  have hde := x.dep_eq
  have hce := x.cnt_eq
  obtain ⟨l, hl⟩ : ∃ l, l = x.exprs := ⟨_, rfl⟩
  obtain ⟨l2, hl2⟩ : ∃ l, l = x.terms := ⟨_, rfl⟩
  have hec := ht.ec
  have htc := ht.tc
  have hex := ht.ex
  have hte := ht.te
  rw [← hl] at hbe2 hfl hde hce hec hex
  rw [← hl2] at IH hbe2 hfl hde hce htc hte
  have HX : Hid (∀ W, Below w.heap.size w W → ExL S W l eo) := Lib.hid fun W hW => hex.stay (fun _ h => h) fun b hb => hW.block b (by have := hS b hb; omega)
  have HY : Hid (∀ W, Below w.heap.size w W → TrL S W l2 tb) := Lib.hid fun W hW => hte.stay (fun _ h => h) fun b hb => hW.block b (by have := hS b hb; omega)
  have CK : Hid (∀ y ∈ l, ∀ (co : Option Addr) (ck : Nat), y.args.length ≤ ck → ∀ W, Below w.heap.size w W → ExL S W y.args co → Calls Try.prog 18 #[exV y co ck] W fun e w' => e = .returned (.int .i64 (y.knd : Nat)) ∧ Below W.heap.size W w') := Lib.hid fun y hy co ck h1 W hW h2 => rkind_any (S := S) (B := B) hS y co ck W (by have := hW.size; omega) (hbe2.1.2 y hy) h1 h2
  have HI := Lib.hid IH
  have HBL := Lib.hid (And.intro hbe2.1.2 hbe2.2)
  have HA := Lib.hid (And.intro hB (And.intro hn (And.intro hde (And.intro hce hcn))))
  have HP := Lib.hid hp
  have HPL := Lib.hid hp.len
  have HFL := Lib.hid (flt_len x)
  obtain ⟨m, hm⟩ : ∃ m, m = l.length := ⟨_, rfl⟩
  obtain ⟨m2, hm2⟩ : ∃ m, m = l2.length := ⟨_, rfl⟩
  have HM := Lib.hid hm
  have HM2 := Lib.hid hm2
  have hm3 : m < 1000 ∧ m2 < 1000 := by
    have := len_cnts l
    have := len_tcnts l2
    omega
  obtain ⟨hm3, hm4⟩ := hm3
  obtain ⟨xo, hxo⟩ : ∃ v, v = x.op := ⟨_, rfl⟩
  obtain ⟨xs, hxs⟩ : ∃ v, v = x.nm := ⟨_, rfl⟩
  rw [show trV x eo ek tb tk = .agg #[.int .i64 xo, .string xs, .slice eo m ek, .slice tb m2 tk] from by rw [hm, hm2, hl, hl2, hxo, hxs]]
  rw [← hxo, ← hm] at hfl
  obtain ⟨RES, hRES⟩ : ∃ v, v = x.flt := ⟨_, rfl⟩
  rw [← hRES] at hfl HFL ⊢
  have HR := Lib.hid hfl
  obtain ⟨nd, hnd⟩ : ∃ v, v = ndK xo := ⟨_, rfl⟩
  rw [← hnd] at HR
  have HND := Lib.hid hnd
  have GA := Lib.hid (term_box (.int .i64 xo) (.string xs) (.slice eo m ek) (.slice tb m2 tk) w)
  clear IH hB hb ht hcn hp hn hbe hbe2 hec htc hex hte hl hl2 hm hm2 hxo hxs hRES hde hce hfl hnd
  go_enter Try.func22, Try.ntmps22
  go_upto_region 1 with fail
  obtain ⟨z, hz⟩ : ∃ z, z = w.heap.size := ⟨_, rfl⟩
  obtain ⟨W, hW⟩ : ∃ X, w.alloc (.cells #[.int .i64 xo, .string xs, .slice eo m ek, .slice tb m2 tk] 42) = X := ⟨_, rfl⟩
  obtain ⟨g1, b1, _⟩ := GA.out W hW
  rw [hW, ← hz]
  rw [← hz] at b1
  have HG := Lib.hid g1
  have HB1 := Lib.hid b1
  clear hW g1 b1 GA hz
  go_upto_region 4 with fail
  go_loopw [6, 7, 8] (fun v6 v7 v8 wr => ∃ (j : Nat) (ba : Option Addr) (bn bc : Nat), j ≤ m ∧ v6 = .slice ba bn bc ∧ v7 = .bool (fltX nd 0 (l.take j)).isSome ∧ v8 = .int .i64 j ∧ Hid (((∀ p, fltX nd 0 (l.take j) = some p → StI ba bn bc (path ++ p) wr ∧ p.length ≤ x.dep ∧ ∃ (i0 : Int) (p' : List Int), p = i0 :: p' ∧ i0 < j) ∧ (fltX nd 0 (l.take j) = none → bn = 0)) ∧ Below W.heap.size W wr)) (fun _ _ v _ => m - (intOf v).toNat)
  case atStart => exact ⟨0, none, 0, 0, by omega, rfl, rfl, rfl, Lib.hid ⟨⟨fun p hp => by simp [fltX] at hp, fun _ => rfl⟩, Below.refl _ _⟩⟩
  case round =>
    obtain ⟨j, ba, bn, bc, hj, rfl, rfl, rfl, HR1⟩ := hrel
    have HWW := Lib.hid (below_mono HG.out HR1.out.2 (Nat.le_refl _))
    obtain ⟨c0, c1, c2, c3⟩ := quad ((HR1.out.2.block z (lt_of_heap HB1.out)).trans HB1.out)
    by_cases hlt : j < m
    · obtain ⟨y, hy⟩ : ∃ y, l[j]? = some y := ⟨_, List.getElem?_eq_getElem (by rw [← HM.out]; exact hlt)⟩
      have hmem := List.mem_of_getElem? hy
      have hdi := (cnts_in hy).2
      obtain ⟨a, co, ck, rfl, hsa, hck, ⟨y0, y1, y2, y3⟩, hyl⟩ := (HX.out wr HWW.out).get hy
      have HTK0 := Lib.hid (fltX_take (nd := nd) (i := 0) hy)
      have CKy : Hid (∀ V, Below wr.heap.size wr V → Calls Try.prog 18 #[exV y co ck] V fun e w' => e = .returned (.int .i64 (y.knd : Nat)) ∧ Below V.heap.size V w') := Lib.hid fun V hV => CK.out y hmem co ck hck V (below_mono HWW.out hV (Nat.le_refl _)) (hyl.stay (fun _ h => h) fun b hb => hV.block b (by have := hS b hb; have := HA.out.1; have := HWW.out.size; omega))
      have CW : Hid (∀ V, Below wr.heap.size wr V → Calls Try.prog 54 #[.slice pa pn pc, .int .i64 j] V fun e w' => (∃ qa qc, e = .returned (.slice qa (pn + 1) qc) ∧ StI qa (pn + 1) qc (path ++ [(j : Int)]) w') ∧ Below V.heap.size V w') := Lib.hid fun V hV => with_any pa pn pc path j V (HP.out.next (below_mono HWW.out hV (Nat.le_refl _))) (by have := HA.out.2.1; omega)
      have CX : Hid (∀ V, Below wr.heap.size wr V → ∀ va c, StI va (pn + 1) c (path ++ [(j : Int)]) V → Calls Try.prog 53 #[exV y co ck, .slice va (pn + 1) c] V (ExP (path ++ [(j : Int)]) y.ex0 V)) := Lib.hid fun V hV va c hst => exprs_any (S := S) (B := B) hS y co ck V va (pn + 1) c (path ++ [(j : Int)]) (by have := HA.out.1; have := (below_mono HWW.out hV (Nat.le_refl _)).size; omega) (HBL.out.1 y hmem) hck (hyl.stay (fun _ h => h) fun b hb => hV.block b (by have := hS b hb; have := HA.out.1; have := HWW.out.size; omega)) hst (by
        have h1 := HA.out.2.1
        have h2 := HA.out.2.2.1
        omega)
      have HEX : Hid (y.ex0 = if y.knd = 0 then some y.dst else none) := Lib.hid rfl
      have HDL : Hid (y.dst.length + 1 ≤ x.dep) := Lib.hid (by have := dst_len y; have := HA.out.2.2.1; omega)
      have hk2 := knd_le y
      obtain ⟨kn, hkn⟩ : ∃ v, v = y.knd := ⟨_, rfl⟩
      obtain ⟨yd, hyd⟩ : ∃ v, v = y.dst := ⟨_, rfl⟩
      obtain ⟨ye, hye0⟩ : ∃ v, v = y.ex0 := ⟨_, rfl⟩
      rw [← hkn, ← hyd] at HTK0
      rw [← hkn] at CKy hk2
      rw [← hye0] at CX
      rw [← hye0, ← hkn, ← hyd] at HEX
      rw [← hyd] at HDL
      obtain ⟨cm, hcm⟩ : ∃ c, c = y.args.length := ⟨_, rfl⟩
      obtain ⟨yo, hyo⟩ : ∃ v, v = y.op := ⟨_, rfl⟩
      obtain ⟨yn, hyn⟩ : ∃ v, v = y.n := ⟨_, rfl⟩
      obtain ⟨ys, hys⟩ : ∃ v, v = y.nm := ⟨_, rfl⟩
      have hye : exV y co ck = .agg #[.int .i64 yo, .int .i64 yn, .string ys, .slice co cm ck] := by rw [hcm, hyo, hyn, hys]
      rw [hye] at CKy CX
      rw [← hcm] at y3
      rw [← hyo] at y0
      rw [← hyn] at y1
      rw [← hys] at y2
      have HBX : Hid (∀ W, Below wr.heap.size wr W → (W.cell? (a.add (j * 4)) = some (.int .i64 yo) ∧ W.cell? ⟨(a.add (j * 4)).block, (a.add (j * 4)).off + 1, none⟩ = some (.int .i64 yn) ∧ W.cell? ⟨(a.add (j * 4)).block, (a.add (j * 4)).off + 2, none⟩ = some (.string ys) ∧ W.cell? ⟨(a.add (j * 4)).block, (a.add (j * 4)).off + 3, none⟩ = some (.slice co cm ck)) ∧ (W.cell? ⟨z, 2, none⟩ = some (.slice (some a) m ek) ∧ W.cell? ⟨z, 0, none⟩ = some (.int .i64 xo))) := Lib.hid fun W hW => by
        have ha : (a.add (j * 4)).block < wr.heap.size := by rw [add_block]; have := hS _ hsa; have := HA.out.1; have := HWW.out.size; omega
        have hzl := World.block_lt_of_cell? _ _ c3
        exact ⟨⟨(hW.cell (p := a.add (j * 4)) ha).trans y0, (hW.cell (p := ⟨(a.add (j * 4)).block, (a.add (j * 4)).off + 1, none⟩) ha).trans y1, (hW.cell (p := ⟨(a.add (j * 4)).block, (a.add (j * 4)).off + 2, none⟩) ha).trans y2, (hW.cell (p := ⟨(a.add (j * 4)).block, (a.add (j * 4)).off + 3, none⟩) ha).trans y3⟩, (hW.cell (p := ⟨z, 2, none⟩) hzl).trans c2, (hW.cell (p := ⟨z, 0, none⟩) hzl).trans c0⟩
      have j0 : (0 : Int) ≤ (j : Int) := by omega
      have j1 : (j : Int) < (m : Int) := by omega
      obtain ⟨fv, hfv⟩ : ∃ v, v = fltX nd 0 (l.take j) := ⟨_, rfl⟩
      rw [← hfv] at HR1 HTK0 ⊢
      clear hcm hyo hyn hys hsa hck hyl hy hmem hkn hyd hye hdi hye0 hfv
      have CX1 : Hid (kn = 0 → ∀ V, Below wr.heap.size wr V → ∀ va c, StI va (pn + 1) c (path ++ [(j : Int)]) V → Calls Try.prog 53 #[.agg #[.int .i64 yo, .int .i64 yn, .string ys, .slice co cm ck], .slice va (pn + 1) c] V fun e w' => (∃ qa qn qc, e = .returned (.tuple #[.slice qa qn qc, .bool true]) ∧ StI qa qn qc (path ++ ((j : Int) :: yd)) w') ∧ Below V.heap.size V w') := Lib.hid fun hk0 V hV va c hst => (CX.out V hV va c hst).mono fun e w' ⟨⟨qa, qn, qc, h1, h2, h0⟩, hb⟩ => by
        rw [HEX.out, if_pos hk0] at h1 h2
        have h3 := h2 _ rfl
        rw [List.append_assoc] at h3
        exact ⟨⟨qa, qn, qc, h1, h3⟩, hb⟩
      have CX0 : Hid (kn ≠ 0 → ∀ V, Below wr.heap.size wr V → ∀ va c, StI va (pn + 1) c (path ++ [(j : Int)]) V → Calls Try.prog 53 #[.agg #[.int .i64 yo, .int .i64 yn, .string ys, .slice co cm ck], .slice va (pn + 1) c] V fun e w' => (∃ qa qn qc, e = .returned (.tuple #[.slice qa qn qc, .bool false]) ∧ qn = 0) ∧ Below V.heap.size V w') := Lib.hid fun hk0 V hV va c hst => (CX.out V hV va c hst).mono fun e w' ⟨⟨qa, qn, qc, h1, h2, h0⟩, hb⟩ => by
        rw [HEX.out, if_neg hk0] at h1
        exact ⟨⟨qa, qn, qc, h1, h0 (by rw [HEX.out, if_neg hk0])⟩, hb⟩
      have h012 : kn = 0 ∨ kn = 1 ∨ kn = 2 := by omega
      clear CX hk2
      rcases h012 with rfl | rfl | rfl
      · have CX1' := Lib.hid (CX1.out rfl)
        clear CX1 CX0
        have CK0 : Hid (∀ V, Below wr.heap.size wr V → Calls Try.prog 18 #[.agg #[.int .i64 yo, .int .i64 yn, .string ys, .slice co cm ck]] V fun e w' => e = .returned (.int .i64 0) ∧ Below V.heap.size V w') := CKy
        have HN0 : Hid (¬ (((0 : Nat) : Int) = nd)) := Lib.hid (by rw [HND.out]; unfold ndK; split <;> omega)
        clear CKy
        cases fv with
        | none =>
          have HTK : Hid (fltX nd 0 (l.take (j + 1)) = some ((j : Int) :: yd)) := Lib.hid (by rw [HTK0.out]; show (if ((0 : Nat) : Int) = nd then _ else _) = _; rw [if_neg HN0.out, Int.zero_add]; rfl)
          clear HTK0
          go_upto_region 7 with (go_at_call 18; (with_reducible refine (CK0.out _ (Below.refl _ _)).mono ?_); rintro e w4 ⟨rfl, hb⟩; have HB4 := Lib.hid hb; clear hb)
          clear c0 c1 c2 c3 y0 y1 y2 y3
          obtain ⟨_, c2, _⟩ := HBX.out w4 HB4.out
          have HBE : Hid (Below wr.heap.size wr w4.drew) := Lib.hid HB4.out.drew
          go_region_held3 (fun W => (W.cell? (a.add (j * 4)) = some (.int .i64 yo) ∧ W.cell? ⟨(a.add (j * 4)).block, (a.add (j * 4)).off + 1, none⟩ = some (.int .i64 yn) ∧ W.cell? ⟨(a.add (j * 4)).block, (a.add (j * 4)).off + 2, none⟩ = some (.string ys) ∧ W.cell? ⟨(a.add (j * 4)).block, (a.add (j * 4)).off + 3, none⟩ = some (.slice co cm ck)) ∧ (W.cell? ⟨z, 2, none⟩ = some (.slice (some a) m ek) ∧ W.cell? ⟨z, 0, none⟩ = some (.int .i64 xo)))
            (first | exact HBX.out _ HB6.out | exact HBX.out _ HB5.out | exact HBX.out _ HBE.out)
            (first
              | (go_at_call 54; (with_reducible refine (CW.out _ HBE.out).mono ?_); rintro e w5 ⟨⟨qa, qc, rfl, hq⟩, hb⟩; have HB5 := Lib.hid (below_mono HBE.out hb (Nat.le_refl _)); have HQ5 := Lib.hid hq; clear hb hq)
              | (go_at_call 53; (with_reducible refine (CX1'.out _ HB5.out _ _ HQ5.out).mono ?_); rintro e w6 ⟨⟨ra, rn, rc, rfl, hr⟩, hb⟩; have HB6 := Lib.hid (below_mono HB5.out hb (Nat.le_refl _)); have HR6 := Lib.hid hr; clear hb hr))
          all_goals
            clear c2
            go_wp2_with (first | (go_at_call 55; (with_reducible refine (better_no _ _ _ _ _ _ _ _).mono ?_); rintro e w7 ⟨rfl, hb⟩; have HB7 := Lib.hid (below_mono HB6.out hb (Nat.le_refl _)); have HB67 := Lib.hid hb; clear hb; obtain ⟨_, c2, c0⟩ := HBX.out w7 HB7.out))
            go_roundw
            case rel => exact ⟨j + 1, ra, rn, rc, by omega, rfl, by rw [HTK.out]; rfl, by go_num, Lib.hid ⟨⟨(fun p hp => by rw [HTK.out] at hp; cases hp; exact ⟨HR6.out.next HB67.out, by have := HDL.out; simp; omega, (j : Int), yd, rfl, by omega⟩), (fun h => by rw [HTK.out] at h; cases h)⟩, below_mono HR1.out.2 HB7.out (Nat.le_refl _)⟩⟩
            case measure => simp [intOf]; omega
        | some p0 =>
          have HP0 := Lib.hid (HR1.out.1.1 p0 rfl)
          have HTK : Hid (fltX nd 0 (l.take (j + 1)) = some p0) := Lib.hid HTK0.out
          clear HTK0
          go_upto_region 7 with (go_at_call 18; (with_reducible refine (CK0.out _ (Below.refl _ _)).mono ?_); rintro e w4 ⟨rfl, hb⟩; have HB4 := Lib.hid hb; clear hb)
          clear c0 c1 c2 c3 y0 y1 y2 y3
          obtain ⟨_, c2, _⟩ := HBX.out w4 HB4.out
          have HBE : Hid (Below wr.heap.size wr w4.drew) := Lib.hid HB4.out.drew
          go_region_held3 (fun W => (W.cell? (a.add (j * 4)) = some (.int .i64 yo) ∧ W.cell? ⟨(a.add (j * 4)).block, (a.add (j * 4)).off + 1, none⟩ = some (.int .i64 yn) ∧ W.cell? ⟨(a.add (j * 4)).block, (a.add (j * 4)).off + 2, none⟩ = some (.string ys) ∧ W.cell? ⟨(a.add (j * 4)).block, (a.add (j * 4)).off + 3, none⟩ = some (.slice co cm ck)) ∧ (W.cell? ⟨z, 2, none⟩ = some (.slice (some a) m ek) ∧ W.cell? ⟨z, 0, none⟩ = some (.int .i64 xo)))
            (first | exact HBX.out _ HB6.out | exact HBX.out _ HB5.out | exact HBX.out _ HBE.out)
            (first
              | (go_at_call 54; (with_reducible refine (CW.out _ HBE.out).mono ?_); rintro e w5 ⟨⟨qa, qc, rfl, hq⟩, hb⟩; have HB5 := Lib.hid (below_mono HBE.out hb (Nat.le_refl _)); have HQ5 := Lib.hid hq; clear hb hq)
              | (go_at_call 53; (with_reducible refine (CX1'.out _ HB5.out _ _ HQ5.out).mono ?_); rintro e w6 ⟨⟨ra, rn, rc, rfl, hr⟩, hb⟩; have HB6 := Lib.hid (below_mono HB5.out hb (Nat.le_refl _)); have HR6 := Lib.hid hr; clear hb hr))
          all_goals
            clear c2
            go_wp2_with (first | (go_at_call 55; (with_reducible refine (better_first _ _ _ _ _ _ _ _ _ (HP0.out.1.next HB6.out) HR6.out (by have h1 := HP0.out.1.len; have h2 := HP0.out.2.1; have h3 := HR6.out.len; have h4 := HDL.out; have h5 := HA.out.2.1; have h6 := HPL.out; simp at h1 h3; omega) (by obtain ⟨_, _, i0, p1, h3, h4⟩ := HP0.out; rw [h3, lexLt_pre]; exact lexLt_head h4 _ _)).mono ?_); rintro e w7 ⟨rfl, hb⟩; have HB7 := Lib.hid (below_mono HB6.out hb (Nat.le_refl _)); have HB67 := Lib.hid hb; clear hb; obtain ⟨_, c2, c0⟩ := HBX.out w7 HB7.out))
            go_roundw
            case rel => exact ⟨j + 1, ba, bn, bc, by omega, rfl, by rw [HTK.out]; rfl, by go_num, Lib.hid ⟨⟨(fun p hp => by rw [HTK.out] at hp; cases hp; obtain ⟨h1, h2, i0, p1, h3, h4⟩ := HP0.out; exact ⟨h1.next HB7.out, h2, i0, p1, h3, by omega⟩), (fun h => by rw [HTK.out] at h; cases h)⟩, below_mono HR1.out.2 HB7.out (Nat.le_refl _)⟩⟩
            case measure => simp [intOf]; omega
      · have CX0' := Lib.hid (CX0.out (by omega))
        clear CX1 CX0
        have CK0 : Hid (∀ V, Below wr.heap.size wr V → Calls Try.prog 18 #[.agg #[.int .i64 yo, .int .i64 yn, .string ys, .slice co cm ck]] V fun e w' => e = .returned (.int .i64 1) ∧ Below V.heap.size V w') := CKy
        clear CKy
        by_cases h6 : xo = 6
        · have HN0 : Hid (((1 : Nat) : Int) = nd) := Lib.hid (by rw [HND.out]; unfold ndK; rw [if_pos h6]; rfl)
          have h6b : (xo == 6) = true := by simp [h6]
          clear h6
          cases fv with
          | none =>
            have HTK : Hid (fltX nd 0 (l.take (j + 1)) = none) := Lib.hid (by rw [HTK0.out]; show (if _ = nd then _ else _) = _; rw [if_pos HN0.out])
            clear HTK0
            go_upto_region 7 with (go_at_call 18; (with_reducible refine (CK0.out _ (Below.refl _ _)).mono ?_); rintro e w4 ⟨rfl, hb⟩; have HB4 := Lib.hid hb; clear hb)
            clear c0 c1 c2 c3 y0 y1 y2 y3
            obtain ⟨_, c2, _⟩ := HBX.out w4 HB4.out
            have HBE : Hid (Below wr.heap.size wr w4.drew) := Lib.hid HB4.out.drew
            go_region_held3 (fun W => (W.cell? (a.add (j * 4)) = some (.int .i64 yo) ∧ W.cell? ⟨(a.add (j * 4)).block, (a.add (j * 4)).off + 1, none⟩ = some (.int .i64 yn) ∧ W.cell? ⟨(a.add (j * 4)).block, (a.add (j * 4)).off + 2, none⟩ = some (.string ys) ∧ W.cell? ⟨(a.add (j * 4)).block, (a.add (j * 4)).off + 3, none⟩ = some (.slice co cm ck)) ∧ (W.cell? ⟨z, 2, none⟩ = some (.slice (some a) m ek) ∧ W.cell? ⟨z, 0, none⟩ = some (.int .i64 xo)))
              (first | exact HBX.out _ HB6.out | exact HBX.out _ HB5.out | exact HBX.out _ HBE.out)
              (first
                | (go_at_call 54; (with_reducible refine (CW.out _ HBE.out).mono ?_); rintro e w5 ⟨⟨qa, qc, rfl, hq⟩, hb⟩; have HB5 := Lib.hid (below_mono HBE.out hb (Nat.le_refl _)); have HQ5 := Lib.hid hq; clear hb hq)
                | (go_at_call 53; (with_reducible refine (CX0'.out _ HB5.out _ _ HQ5.out).mono ?_); rintro e w6 ⟨⟨ra, rn, rc, rfl, hr⟩, hb⟩; have HB6 := Lib.hid (below_mono HB5.out hb (Nat.le_refl _)); have HR6 := Lib.hid hr; clear hb hr))
            all_goals
              clear c2
              go_wp2_with (first | (go_at_call 55; (with_reducible refine (better_no _ _ _ _ _ _ _ _).mono ?_); rintro e w7 ⟨rfl, hb⟩; have HB7 := Lib.hid (below_mono HB6.out hb (Nat.le_refl _)); have HB67 := Lib.hid hb; clear hb; obtain ⟨_, c2, c0⟩ := HBX.out w7 HB7.out))
              go_roundw
              case rel => exact ⟨j + 1, ra, rn, rc, by omega, rfl, by rw [HTK.out]; rfl, by go_num, Lib.hid ⟨⟨(fun p hp => by rw [HTK.out] at hp; cases hp), (fun _ => HR6.out)⟩, below_mono HR1.out.2 HB7.out (Nat.le_refl _)⟩⟩
              case measure => simp [intOf]; omega
          | some p0 =>
            have HP0 := Lib.hid (HR1.out.1.1 p0 rfl)
            have HTK : Hid (fltX nd 0 (l.take (j + 1)) = some p0) := Lib.hid HTK0.out
            clear HTK0
            go_upto_region 7 with (go_at_call 18; (with_reducible refine (CK0.out _ (Below.refl _ _)).mono ?_); rintro e w4 ⟨rfl, hb⟩; have HB4 := Lib.hid hb; clear hb)
            clear c0 c1 c2 c3 y0 y1 y2 y3
            obtain ⟨_, c2, _⟩ := HBX.out w4 HB4.out
            have HBE : Hid (Below wr.heap.size wr w4.drew) := Lib.hid HB4.out.drew
            go_region_held3 (fun W => (W.cell? (a.add (j * 4)) = some (.int .i64 yo) ∧ W.cell? ⟨(a.add (j * 4)).block, (a.add (j * 4)).off + 1, none⟩ = some (.int .i64 yn) ∧ W.cell? ⟨(a.add (j * 4)).block, (a.add (j * 4)).off + 2, none⟩ = some (.string ys) ∧ W.cell? ⟨(a.add (j * 4)).block, (a.add (j * 4)).off + 3, none⟩ = some (.slice co cm ck)) ∧ (W.cell? ⟨z, 2, none⟩ = some (.slice (some a) m ek) ∧ W.cell? ⟨z, 0, none⟩ = some (.int .i64 xo)))
              (first | exact HBX.out _ HB6.out | exact HBX.out _ HB5.out | exact HBX.out _ HBE.out)
              (first
                | (go_at_call 54; (with_reducible refine (CW.out _ HBE.out).mono ?_); rintro e w5 ⟨⟨qa, qc, rfl, hq⟩, hb⟩; have HB5 := Lib.hid (below_mono HBE.out hb (Nat.le_refl _)); have HQ5 := Lib.hid hq; clear hb hq)
                | (go_at_call 53; (with_reducible refine (CX0'.out _ HB5.out _ _ HQ5.out).mono ?_); rintro e w6 ⟨⟨ra, rn, rc, rfl, hr⟩, hb⟩; have HB6 := Lib.hid (below_mono HB5.out hb (Nat.le_refl _)); have HR6 := Lib.hid hr; clear hb hr))
            all_goals
              clear c2
              go_wp2_with (first | (go_at_call 55; (with_reducible refine (better_keep _ _ _ _ _ _ _).mono ?_); rintro e w7 ⟨rfl, hb⟩; have HB7 := Lib.hid (below_mono HB6.out hb (Nat.le_refl _)); have HB67 := Lib.hid hb; clear hb; obtain ⟨_, c2, c0⟩ := HBX.out w7 HB7.out))
              go_roundw
              case rel => exact ⟨j + 1, ba, bn, bc, by omega, rfl, by rw [HTK.out]; rfl, by go_num, Lib.hid ⟨⟨(fun p hp => by rw [HTK.out] at hp; cases hp; obtain ⟨h1, h2, i0, p1, h3, h4⟩ := HP0.out; exact ⟨h1.next HB7.out, h2, i0, p1, h3, by omega⟩), (fun h => by rw [HTK.out] at h; cases h)⟩, below_mono HR1.out.2 HB7.out (Nat.le_refl _)⟩⟩
              case measure => simp [intOf]; omega
        · have HN0 : Hid (¬ (((1 : Nat) : Int) = nd)) := Lib.hid (by rw [HND.out]; unfold ndK; rw [if_neg h6]; omega)
          have h6b : (xo == 6) = false := by simp [h6]
          clear h6
          cases fv with
          | none =>
            have HTK : Hid (fltX nd 0 (l.take (j + 1)) = some [(j : Int)]) := Lib.hid (by rw [HTK0.out]; show (if ((1 : Nat) : Int) = nd then _ else _) = _; rw [if_neg HN0.out, Int.zero_add]; rfl)
            clear HTK0
            go_upto_region 7 with (go_at_call 18; (with_reducible refine (CK0.out _ (Below.refl _ _)).mono ?_); rintro e w4 ⟨rfl, hb⟩; have HB4 := Lib.hid hb; clear hb)
            clear c0 c1 c2 c3 y0 y1 y2 y3
            obtain ⟨_, c2, _⟩ := HBX.out w4 HB4.out
            have HBE : Hid (Below wr.heap.size wr w4.drew) := Lib.hid HB4.out.drew
            go_region_held3 (fun W => (W.cell? (a.add (j * 4)) = some (.int .i64 yo) ∧ W.cell? ⟨(a.add (j * 4)).block, (a.add (j * 4)).off + 1, none⟩ = some (.int .i64 yn) ∧ W.cell? ⟨(a.add (j * 4)).block, (a.add (j * 4)).off + 2, none⟩ = some (.string ys) ∧ W.cell? ⟨(a.add (j * 4)).block, (a.add (j * 4)).off + 3, none⟩ = some (.slice co cm ck)) ∧ (W.cell? ⟨z, 2, none⟩ = some (.slice (some a) m ek) ∧ W.cell? ⟨z, 0, none⟩ = some (.int .i64 xo)))
              (first | exact HBX.out _ HB6.out | exact HBX.out _ HB5.out | exact HBX.out _ HBE.out)
              (first
                | (go_at_call 54; (with_reducible refine (CW.out _ HBE.out).mono ?_); rintro e w5 ⟨⟨qa, qc, rfl, hq⟩, hb⟩; have HB5 := Lib.hid (below_mono HBE.out hb (Nat.le_refl _)); have HQ5 := Lib.hid hq; clear hb hq)
                | (go_at_call 53; (with_reducible refine (CX0'.out _ HB5.out _ _ HQ5.out).mono ?_); rintro e w6 ⟨⟨ra, rn, rc, rfl, hr⟩, hb⟩; have HB6 := Lib.hid (below_mono HB5.out hb (Nat.le_refl _)); have HR6 := Lib.hid hr; clear hb hr))
            all_goals
              clear c2
              go_upto_region 10 with (first | (go_at_call 55; (with_reducible refine (better_no _ _ _ _ _ _ _ _).mono ?_); rintro e w7 ⟨rfl, hb⟩; have HB7 := Lib.hid (below_mono HB6.out hb (Nat.le_refl _)); have HB67 := Lib.hid hb; clear hb; obtain ⟨_, c2, c0⟩ := HBX.out w7 HB7.out))
              go_wp2_with (first | (go_at_call 54; (with_reducible refine (CW.out _ HB7.out).mono ?_); rintro e w8 ⟨⟨qa2, qc2, rfl, hq⟩, hb⟩; have HB8 := Lib.hid (below_mono HB7.out hb (Nat.le_refl _)); have HQ8 := Lib.hid hq; clear hb hq) | (go_at_call 55; (with_reducible refine (better_no _ _ _ _ _ _ _ _).mono ?_); rintro e w9 ⟨rfl, hb⟩; have HB9 := Lib.hid (below_mono HB8.out hb (Nat.le_refl _)); have HB89 := Lib.hid hb; clear hb))
              go_roundw
              case rel => exact ⟨j + 1, qa2, pn + 1, qc2, by omega, rfl, by rw [HTK.out]; rfl, by go_num, Lib.hid ⟨⟨(fun p hp => by rw [HTK.out] at hp; cases hp; exact ⟨HQ8.out.next HB89.out, by have := HDL.out; simp; omega, (j : Int), [], rfl, by omega⟩), (fun h => by rw [HTK.out] at h; cases h)⟩, below_mono HR1.out.2 HB9.out (Nat.le_refl _)⟩⟩
              case measure => simp [intOf]; omega
          | some p0 =>
            have HP0 := Lib.hid (HR1.out.1.1 p0 rfl)
            have HTK : Hid (fltX nd 0 (l.take (j + 1)) = some p0) := Lib.hid HTK0.out
            clear HTK0
            go_upto_region 7 with (go_at_call 18; (with_reducible refine (CK0.out _ (Below.refl _ _)).mono ?_); rintro e w4 ⟨rfl, hb⟩; have HB4 := Lib.hid hb; clear hb)
            clear c0 c1 c2 c3 y0 y1 y2 y3
            obtain ⟨_, c2, _⟩ := HBX.out w4 HB4.out
            have HBE : Hid (Below wr.heap.size wr w4.drew) := Lib.hid HB4.out.drew
            go_region_held3 (fun W => (W.cell? (a.add (j * 4)) = some (.int .i64 yo) ∧ W.cell? ⟨(a.add (j * 4)).block, (a.add (j * 4)).off + 1, none⟩ = some (.int .i64 yn) ∧ W.cell? ⟨(a.add (j * 4)).block, (a.add (j * 4)).off + 2, none⟩ = some (.string ys) ∧ W.cell? ⟨(a.add (j * 4)).block, (a.add (j * 4)).off + 3, none⟩ = some (.slice co cm ck)) ∧ (W.cell? ⟨z, 2, none⟩ = some (.slice (some a) m ek) ∧ W.cell? ⟨z, 0, none⟩ = some (.int .i64 xo)))
              (first | exact HBX.out _ HB6.out | exact HBX.out _ HB5.out | exact HBX.out _ HBE.out)
              (first
                | (go_at_call 54; (with_reducible refine (CW.out _ HBE.out).mono ?_); rintro e w5 ⟨⟨qa, qc, rfl, hq⟩, hb⟩; have HB5 := Lib.hid (below_mono HBE.out hb (Nat.le_refl _)); have HQ5 := Lib.hid hq; clear hb hq)
                | (go_at_call 53; (with_reducible refine (CX0'.out _ HB5.out _ _ HQ5.out).mono ?_); rintro e w6 ⟨⟨ra, rn, rc, rfl, hr⟩, hb⟩; have HB6 := Lib.hid (below_mono HB5.out hb (Nat.le_refl _)); have HR6 := Lib.hid hr; clear hb hr))
            all_goals
              clear c2
              go_upto_region 10 with (first | (go_at_call 55; (with_reducible refine (better_keep _ _ _ _ _ _ _).mono ?_); rintro e w7 ⟨rfl, hb⟩; have HB7 := Lib.hid (below_mono HB6.out hb (Nat.le_refl _)); have HB67 := Lib.hid hb; clear hb; obtain ⟨_, c2, c0⟩ := HBX.out w7 HB7.out))
              go_wp2_with (first | (go_at_call 54; (with_reducible refine (CW.out _ HB7.out).mono ?_); rintro e w8 ⟨⟨qa2, qc2, rfl, hq⟩, hb⟩; have HB8 := Lib.hid (below_mono HB7.out hb (Nat.le_refl _)); have HQ8 := Lib.hid hq; clear hb hq) | (go_at_call 55; (with_reducible refine (better_first _ _ _ _ _ _ _ _ _ (HP0.out.1.next HB8.out) HQ8.out (by have h1 := HP0.out.1.len; have h2 := HP0.out.2.1; have h3 := HQ8.out.len; have h4 := HDL.out; have h5 := HA.out.2.1; have h6 := HPL.out; simp at h1 h3; omega) (by obtain ⟨_, _, i0, p1, h3, h4⟩ := HP0.out; rw [h3, lexLt_pre]; exact lexLt_head h4 _ _)).mono ?_); rintro e w9 ⟨rfl, hb⟩; have HB9 := Lib.hid (below_mono HB8.out hb (Nat.le_refl _)); have HB89 := Lib.hid hb; clear hb))
              go_roundw
              case rel => exact ⟨j + 1, ba, bn, bc, by omega, rfl, by rw [HTK.out]; rfl, by go_num, Lib.hid ⟨⟨(fun p hp => by rw [HTK.out] at hp; cases hp; obtain ⟨h1, h2, i0, p1, h3, h4⟩ := HP0.out; exact ⟨h1.next HB9.out, h2, i0, p1, h3, by omega⟩), (fun h => by rw [HTK.out] at h; cases h)⟩, below_mono HR1.out.2 HB9.out (Nat.le_refl _)⟩⟩
              case measure => simp [intOf]; omega
      · have CX0' := Lib.hid (CX0.out (by omega))
        clear CX1 CX0
        have CK0 : Hid (∀ V, Below wr.heap.size wr V → Calls Try.prog 18 #[.agg #[.int .i64 yo, .int .i64 yn, .string ys, .slice co cm ck]] V fun e w' => e = .returned (.int .i64 2) ∧ Below V.heap.size V w') := CKy
        clear CKy
        by_cases h6 : xo = 6
        · have HN0 : Hid (¬ (((2 : Nat) : Int) = nd)) := Lib.hid (by rw [HND.out]; unfold ndK; rw [if_pos h6]; omega)
          have h6b : (xo == 6) = true := by simp [h6]
          clear h6
          cases fv with
          | none =>
            have HTK : Hid (fltX nd 0 (l.take (j + 1)) = some [(j : Int)]) := Lib.hid (by rw [HTK0.out]; show (if ((2 : Nat) : Int) = nd then _ else _) = _; rw [if_neg HN0.out, Int.zero_add]; rfl)
            clear HTK0
            go_upto_region 7 with (go_at_call 18; (with_reducible refine (CK0.out _ (Below.refl _ _)).mono ?_); rintro e w4 ⟨rfl, hb⟩; have HB4 := Lib.hid hb; clear hb)
            clear c0 c1 c2 c3 y0 y1 y2 y3
            obtain ⟨_, c2, _⟩ := HBX.out w4 HB4.out
            have HBE : Hid (Below wr.heap.size wr w4.drew) := Lib.hid HB4.out.drew
            go_region_held3 (fun W => (W.cell? (a.add (j * 4)) = some (.int .i64 yo) ∧ W.cell? ⟨(a.add (j * 4)).block, (a.add (j * 4)).off + 1, none⟩ = some (.int .i64 yn) ∧ W.cell? ⟨(a.add (j * 4)).block, (a.add (j * 4)).off + 2, none⟩ = some (.string ys) ∧ W.cell? ⟨(a.add (j * 4)).block, (a.add (j * 4)).off + 3, none⟩ = some (.slice co cm ck)) ∧ (W.cell? ⟨z, 2, none⟩ = some (.slice (some a) m ek) ∧ W.cell? ⟨z, 0, none⟩ = some (.int .i64 xo)))
              (first | exact HBX.out _ HB6.out | exact HBX.out _ HB5.out | exact HBX.out _ HBE.out)
              (first
                | (go_at_call 54; (with_reducible refine (CW.out _ HBE.out).mono ?_); rintro e w5 ⟨⟨qa, qc, rfl, hq⟩, hb⟩; have HB5 := Lib.hid (below_mono HBE.out hb (Nat.le_refl _)); have HQ5 := Lib.hid hq; clear hb hq)
                | (go_at_call 53; (with_reducible refine (CX0'.out _ HB5.out _ _ HQ5.out).mono ?_); rintro e w6 ⟨⟨ra, rn, rc, rfl, hr⟩, hb⟩; have HB6 := Lib.hid (below_mono HB5.out hb (Nat.le_refl _)); have HR6 := Lib.hid hr; clear hb hr))
            all_goals
              clear c2
              go_upto_region 10 with (first | (go_at_call 55; (with_reducible refine (better_no _ _ _ _ _ _ _ _).mono ?_); rintro e w7 ⟨rfl, hb⟩; have HB7 := Lib.hid (below_mono HB6.out hb (Nat.le_refl _)); have HB67 := Lib.hid hb; clear hb; obtain ⟨_, c2, c0⟩ := HBX.out w7 HB7.out))
              go_wp2_with (first | (go_at_call 54; (with_reducible refine (CW.out _ HB7.out).mono ?_); rintro e w8 ⟨⟨qa2, qc2, rfl, hq⟩, hb⟩; have HB8 := Lib.hid (below_mono HB7.out hb (Nat.le_refl _)); have HQ8 := Lib.hid hq; clear hb hq) | (go_at_call 55; (with_reducible refine (better_no _ _ _ _ _ _ _ _).mono ?_); rintro e w9 ⟨rfl, hb⟩; have HB9 := Lib.hid (below_mono HB8.out hb (Nat.le_refl _)); have HB89 := Lib.hid hb; clear hb))
              go_roundw
              case rel => exact ⟨j + 1, qa2, pn + 1, qc2, by omega, rfl, by rw [HTK.out]; rfl, by go_num, Lib.hid ⟨⟨(fun p hp => by rw [HTK.out] at hp; cases hp; exact ⟨HQ8.out.next HB89.out, by have := HDL.out; simp; omega, (j : Int), [], rfl, by omega⟩), (fun h => by rw [HTK.out] at h; cases h)⟩, below_mono HR1.out.2 HB9.out (Nat.le_refl _)⟩⟩
              case measure => simp [intOf]; omega
          | some p0 =>
            have HP0 := Lib.hid (HR1.out.1.1 p0 rfl)
            have HTK : Hid (fltX nd 0 (l.take (j + 1)) = some p0) := Lib.hid HTK0.out
            clear HTK0
            go_upto_region 7 with (go_at_call 18; (with_reducible refine (CK0.out _ (Below.refl _ _)).mono ?_); rintro e w4 ⟨rfl, hb⟩; have HB4 := Lib.hid hb; clear hb)
            clear c0 c1 c2 c3 y0 y1 y2 y3
            obtain ⟨_, c2, _⟩ := HBX.out w4 HB4.out
            have HBE : Hid (Below wr.heap.size wr w4.drew) := Lib.hid HB4.out.drew
            go_region_held3 (fun W => (W.cell? (a.add (j * 4)) = some (.int .i64 yo) ∧ W.cell? ⟨(a.add (j * 4)).block, (a.add (j * 4)).off + 1, none⟩ = some (.int .i64 yn) ∧ W.cell? ⟨(a.add (j * 4)).block, (a.add (j * 4)).off + 2, none⟩ = some (.string ys) ∧ W.cell? ⟨(a.add (j * 4)).block, (a.add (j * 4)).off + 3, none⟩ = some (.slice co cm ck)) ∧ (W.cell? ⟨z, 2, none⟩ = some (.slice (some a) m ek) ∧ W.cell? ⟨z, 0, none⟩ = some (.int .i64 xo)))
              (first | exact HBX.out _ HB6.out | exact HBX.out _ HB5.out | exact HBX.out _ HBE.out)
              (first
                | (go_at_call 54; (with_reducible refine (CW.out _ HBE.out).mono ?_); rintro e w5 ⟨⟨qa, qc, rfl, hq⟩, hb⟩; have HB5 := Lib.hid (below_mono HBE.out hb (Nat.le_refl _)); have HQ5 := Lib.hid hq; clear hb hq)
                | (go_at_call 53; (with_reducible refine (CX0'.out _ HB5.out _ _ HQ5.out).mono ?_); rintro e w6 ⟨⟨ra, rn, rc, rfl, hr⟩, hb⟩; have HB6 := Lib.hid (below_mono HB5.out hb (Nat.le_refl _)); have HR6 := Lib.hid hr; clear hb hr))
            all_goals
              clear c2
              go_upto_region 10 with (first | (go_at_call 55; (with_reducible refine (better_keep _ _ _ _ _ _ _).mono ?_); rintro e w7 ⟨rfl, hb⟩; have HB7 := Lib.hid (below_mono HB6.out hb (Nat.le_refl _)); have HB67 := Lib.hid hb; clear hb; obtain ⟨_, c2, c0⟩ := HBX.out w7 HB7.out))
              go_wp2_with (first | (go_at_call 54; (with_reducible refine (CW.out _ HB7.out).mono ?_); rintro e w8 ⟨⟨qa2, qc2, rfl, hq⟩, hb⟩; have HB8 := Lib.hid (below_mono HB7.out hb (Nat.le_refl _)); have HQ8 := Lib.hid hq; clear hb hq) | (go_at_call 55; (with_reducible refine (better_first _ _ _ _ _ _ _ _ _ (HP0.out.1.next HB8.out) HQ8.out (by have h1 := HP0.out.1.len; have h2 := HP0.out.2.1; have h3 := HQ8.out.len; have h4 := HDL.out; have h5 := HA.out.2.1; have h6 := HPL.out; simp at h1 h3; omega) (by obtain ⟨_, _, i0, p1, h3, h4⟩ := HP0.out; rw [h3, lexLt_pre]; exact lexLt_head h4 _ _)).mono ?_); rintro e w9 ⟨rfl, hb⟩; have HB9 := Lib.hid (below_mono HB8.out hb (Nat.le_refl _)); have HB89 := Lib.hid hb; clear hb))
              go_roundw
              case rel => exact ⟨j + 1, ba, bn, bc, by omega, rfl, by rw [HTK.out]; rfl, by go_num, Lib.hid ⟨⟨(fun p hp => by rw [HTK.out] at hp; cases hp; obtain ⟨h1, h2, i0, p1, h3, h4⟩ := HP0.out; exact ⟨h1.next HB9.out, h2, i0, p1, h3, by omega⟩), (fun h => by rw [HTK.out] at h; cases h)⟩, below_mono HR1.out.2 HB9.out (Nat.le_refl _)⟩⟩
              case measure => simp [intOf]; omega
        · have HN0 : Hid (((2 : Nat) : Int) = nd) := Lib.hid (by rw [HND.out]; unfold ndK; rw [if_neg h6]; rfl)
          have h6b : (xo == 6) = false := by simp [h6]
          clear h6
          cases fv with
          | none =>
            have HTK : Hid (fltX nd 0 (l.take (j + 1)) = none) := Lib.hid (by rw [HTK0.out]; show (if _ = nd then _ else _) = _; rw [if_pos HN0.out])
            clear HTK0
            go_upto_region 7 with (go_at_call 18; (with_reducible refine (CK0.out _ (Below.refl _ _)).mono ?_); rintro e w4 ⟨rfl, hb⟩; have HB4 := Lib.hid hb; clear hb)
            clear c0 c1 c2 c3 y0 y1 y2 y3
            obtain ⟨_, c2, _⟩ := HBX.out w4 HB4.out
            have HBE : Hid (Below wr.heap.size wr w4.drew) := Lib.hid HB4.out.drew
            go_region_held3 (fun W => (W.cell? (a.add (j * 4)) = some (.int .i64 yo) ∧ W.cell? ⟨(a.add (j * 4)).block, (a.add (j * 4)).off + 1, none⟩ = some (.int .i64 yn) ∧ W.cell? ⟨(a.add (j * 4)).block, (a.add (j * 4)).off + 2, none⟩ = some (.string ys) ∧ W.cell? ⟨(a.add (j * 4)).block, (a.add (j * 4)).off + 3, none⟩ = some (.slice co cm ck)) ∧ (W.cell? ⟨z, 2, none⟩ = some (.slice (some a) m ek) ∧ W.cell? ⟨z, 0, none⟩ = some (.int .i64 xo)))
              (first | exact HBX.out _ HB6.out | exact HBX.out _ HB5.out | exact HBX.out _ HBE.out)
              (first
                | (go_at_call 54; (with_reducible refine (CW.out _ HBE.out).mono ?_); rintro e w5 ⟨⟨qa, qc, rfl, hq⟩, hb⟩; have HB5 := Lib.hid (below_mono HBE.out hb (Nat.le_refl _)); have HQ5 := Lib.hid hq; clear hb hq)
                | (go_at_call 53; (with_reducible refine (CX0'.out _ HB5.out _ _ HQ5.out).mono ?_); rintro e w6 ⟨⟨ra, rn, rc, rfl, hr⟩, hb⟩; have HB6 := Lib.hid (below_mono HB5.out hb (Nat.le_refl _)); have HR6 := Lib.hid hr; clear hb hr))
            all_goals
              clear c2
              go_wp2_with (first | (go_at_call 55; (with_reducible refine (better_no _ _ _ _ _ _ _ _).mono ?_); rintro e w7 ⟨rfl, hb⟩; have HB7 := Lib.hid (below_mono HB6.out hb (Nat.le_refl _)); have HB67 := Lib.hid hb; clear hb; obtain ⟨_, c2, c0⟩ := HBX.out w7 HB7.out))
              go_roundw
              case rel => exact ⟨j + 1, ra, rn, rc, by omega, rfl, by rw [HTK.out]; rfl, by go_num, Lib.hid ⟨⟨(fun p hp => by rw [HTK.out] at hp; cases hp), (fun _ => HR6.out)⟩, below_mono HR1.out.2 HB7.out (Nat.le_refl _)⟩⟩
              case measure => simp [intOf]; omega
          | some p0 =>
            have HP0 := Lib.hid (HR1.out.1.1 p0 rfl)
            have HTK : Hid (fltX nd 0 (l.take (j + 1)) = some p0) := Lib.hid HTK0.out
            clear HTK0
            go_upto_region 7 with (go_at_call 18; (with_reducible refine (CK0.out _ (Below.refl _ _)).mono ?_); rintro e w4 ⟨rfl, hb⟩; have HB4 := Lib.hid hb; clear hb)
            clear c0 c1 c2 c3 y0 y1 y2 y3
            obtain ⟨_, c2, _⟩ := HBX.out w4 HB4.out
            have HBE : Hid (Below wr.heap.size wr w4.drew) := Lib.hid HB4.out.drew
            go_region_held3 (fun W => (W.cell? (a.add (j * 4)) = some (.int .i64 yo) ∧ W.cell? ⟨(a.add (j * 4)).block, (a.add (j * 4)).off + 1, none⟩ = some (.int .i64 yn) ∧ W.cell? ⟨(a.add (j * 4)).block, (a.add (j * 4)).off + 2, none⟩ = some (.string ys) ∧ W.cell? ⟨(a.add (j * 4)).block, (a.add (j * 4)).off + 3, none⟩ = some (.slice co cm ck)) ∧ (W.cell? ⟨z, 2, none⟩ = some (.slice (some a) m ek) ∧ W.cell? ⟨z, 0, none⟩ = some (.int .i64 xo)))
              (first | exact HBX.out _ HB6.out | exact HBX.out _ HB5.out | exact HBX.out _ HBE.out)
              (first
                | (go_at_call 54; (with_reducible refine (CW.out _ HBE.out).mono ?_); rintro e w5 ⟨⟨qa, qc, rfl, hq⟩, hb⟩; have HB5 := Lib.hid (below_mono HBE.out hb (Nat.le_refl _)); have HQ5 := Lib.hid hq; clear hb hq)
                | (go_at_call 53; (with_reducible refine (CX0'.out _ HB5.out _ _ HQ5.out).mono ?_); rintro e w6 ⟨⟨ra, rn, rc, rfl, hr⟩, hb⟩; have HB6 := Lib.hid (below_mono HB5.out hb (Nat.le_refl _)); have HR6 := Lib.hid hr; clear hb hr))
            all_goals
              clear c2
              go_wp2_with (first | (go_at_call 55; (with_reducible refine (better_keep _ _ _ _ _ _ _).mono ?_); rintro e w7 ⟨rfl, hb⟩; have HB7 := Lib.hid (below_mono HB6.out hb (Nat.le_refl _)); have HB67 := Lib.hid hb; clear hb; obtain ⟨_, c2, c0⟩ := HBX.out w7 HB7.out))
              go_roundw
              case rel => exact ⟨j + 1, ba, bn, bc, by omega, rfl, by rw [HTK.out]; rfl, by go_num, Lib.hid ⟨⟨(fun p hp => by rw [HTK.out] at hp; cases hp; obtain ⟨h1, h2, i0, p1, h3, h4⟩ := HP0.out; exact ⟨h1.next HB7.out, h2, i0, p1, h3, by omega⟩), (fun h => by rw [HTK.out] at h; cases h)⟩, below_mono HR1.out.2 HB7.out (Nat.le_refl _)⟩⟩
              case measure => simp [intOf]; omega
    · obtain rfl : j = m := by omega
      have HTL : Hid (l.take j = l) := Lib.hid (List.take_of_length_le (by rw [HM.out]; exact Nat.le_refl _))
      rw [HTL.out] at HR1 ⊢
      obtain ⟨fx, hfx⟩ : ∃ v, v = fltX nd 0 l := ⟨_, rfl⟩
      rw [← hfx] at HR1 HR ⊢
      have HRF : Hid (RES = f2 fx (Tr.flt.flts j l2)) := Lib.hid HR.out
      clear hfx HTL
      go_upto_region 12 with fail
      clear c0 c1 c2 c3
      have hb0 : (fx.isSome : Bool) = (f2 fx (Tr.flt.flts j (l2.take 0))).isSome := by
        rw [List.take_zero]
        cases fx <;> rfl
      rw [hb0]
      clear hb0
      go_loopw [6, 7, 12] (fun v6 v7 v12 wr => ∃ (i : Nat) (da : Option Addr) (dn dc : Nat), i ≤ m2 ∧ v6 = .slice da dn dc ∧ v7 = .bool (f2 fx (Tr.flt.flts j (l2.take i))).isSome ∧ v12 = .int .i64 i ∧ Hid (((∀ p, f2 fx (Tr.flt.flts j (l2.take i)) = some p → StI da dn dc (path ++ p) wr ∧ p.length ≤ x.dep ∧ ∃ (i0 : Int) (p' : List Int), p = i0 :: p' ∧ i0 < (j : Int) + i) ∧ (f2 fx (Tr.flt.flts j (l2.take i)) = none → dn = 0)) ∧ Below W.heap.size W wr)) (fun _ _ v _ => m2 - (intOf v).toNat)
      case atStart => exact ⟨0, ba, bn, bc, by omega, rfl, rfl, rfl, Lib.hid ⟨⟨fun p hp => by
        have hp' : fx = some p := by
          rw [List.take_zero] at hp
          cases fx with
          | some q => exact hp
          | none => cases hp
        obtain ⟨h1, h2, i0, p', h3, h4⟩ := HR1.out.1.1 p hp'
        exact ⟨h1, h2, i0, p', h3, by simpa using h4⟩, fun h => by
        have hp' : fx = none := by
          cases fx with
          | some q => cases h
          | none => rfl
        exact HR1.out.1.2 hp'⟩, HR1.out.2⟩⟩
      case round =>
        obtain ⟨i, da, dn, dc, hi, rfl, rfl, rfl, HR2⟩ := hrel
        have HWW2 := Lib.hid (below_mono HG.out HR2.out.2 (Nat.le_refl _))
        obtain ⟨c0, c1, c2, c3⟩ := quad ((HR2.out.2.block z (lt_of_heap HB1.out)).trans HB1.out)
        by_cases hlt2 : i < m2
        · obtain ⟨y, hy⟩ : ∃ y, l2[i]? = some y := ⟨_, List.getElem?_eq_getElem (by rw [← HM2.out]; exact hlt2)⟩
          have hmem := List.mem_of_getElem? hy
          have hci := tcnts_in hy
          obtain ⟨a, eo2, ek2, to2, tk2, rfl, hsa, hek, htk, ⟨y0, y1, y2, y3⟩, hye, hyt⟩ := (HY.out wr HWW2.out).get hy
          obtain ⟨P, hP⟩ : ∃ P : Int, P = (j : Int) + (i : Int) := ⟨_, rfl⟩
          have hsP : IntKind.i64.wrap ((j : Int) + (i : Int)) = P := by rw [hP]; exact IntWalk.i64_in _ (by omega)
          have HTK0 : Hid (f2 fx (Tr.flt.flts j (l2.take (i + 1))) = match f2 fx (Tr.flt.flts j (l2.take i)) with | some p => some p | none => y.flt.map fun p => P :: p) := Lib.hid (by rw [hP]; exact f2_take hy)
          have CW : Hid (∀ V, Below wr.heap.size wr V → Calls Try.prog 54 #[.slice pa pn pc, .int .i64 P] V fun e w' => (∃ qa qc, e = .returned (.slice qa (pn + 1) qc) ∧ StI qa (pn + 1) qc (path ++ [P]) w') ∧ Below V.heap.size V w') := Lib.hid fun V hV => with_any pa pn pc path P V (HP.out.next (below_mono HWW2.out hV (Nat.le_refl _))) (by have := HA.out.2.1; omega)
          have CF : Hid (∀ V, Below wr.heap.size wr V → ∀ va c, StI va (pn + 1) c (path ++ [P]) V → Calls Try.prog 22 #[trV y eo2 ek2 to2 tk2, .slice va (pn + 1) c] V (ExP (path ++ [P]) y.flt V)) := Lib.hid fun V hV va c hst => by
            have hst2 : ∀ b, S b → V.heap[b]? = wr.heap[b]? := fun b hb => hV.block b (by have := hS b hb; have := HA.out.1; have := HWW2.out.size; omega)
            exact HI.out y hmem eo2 ek2 to2 tk2 V va (pn + 1) c (path ++ [P]) (by have := HA.out.1; have := (below_mono HWW2.out hV (Nat.le_refl _)).size; omega) (HBL.out.2 y hmem) ⟨hek, htk, hye.stay (fun _ h => h) hst2, hyt.stay (fun _ h => h) hst2⟩ (by have h4 := HA.out.2.2.2.1; have h5 := HA.out.2.2.2.2; omega) hst (by
              have h1 := HA.out.2.1
              have h2 := HA.out.2.2.1
              omega)
          have HDL : Hid (∀ p, y.flt = some p → p.length + 1 ≤ x.dep) := Lib.hid fun p hp => by have := flt_len y p hp; have := HA.out.2.2.1; omega
          have HPI : Hid (P = (j : Int) + (i : Int)) := Lib.hid hP
          obtain ⟨fy, hfy⟩ : ∃ v, v = y.flt := ⟨_, rfl⟩
          rw [← hfy] at HTK0 CF HDL
          obtain ⟨em, hem⟩ : ∃ c, c = y.exprs.length := ⟨_, rfl⟩
          obtain ⟨tm, htm⟩ : ∃ c, c = y.terms.length := ⟨_, rfl⟩
          obtain ⟨yo, hyo⟩ : ∃ v, v = y.op := ⟨_, rfl⟩
          obtain ⟨ys, hys⟩ : ∃ v, v = y.nm := ⟨_, rfl⟩
          rw [show trV y eo2 ek2 to2 tk2 = .agg #[.int .i64 yo, .string ys, .slice eo2 em ek2, .slice to2 tm tk2] from by rw [hem, htm, hyo, hys]] at CF
          rw [← hem] at y2
          rw [← htm] at y3
          rw [← hyo] at y0
          rw [← hys] at y1
          have HBX : Hid (∀ W, Below wr.heap.size wr W → (W.cell? (a.add (i * 4)) = some (.int .i64 yo) ∧ W.cell? ⟨(a.add (i * 4)).block, (a.add (i * 4)).off + 1, none⟩ = some (.string ys) ∧ W.cell? ⟨(a.add (i * 4)).block, (a.add (i * 4)).off + 2, none⟩ = some (.slice eo2 em ek2) ∧ W.cell? ⟨(a.add (i * 4)).block, (a.add (i * 4)).off + 3, none⟩ = some (.slice to2 tm tk2)) ∧ (W.cell? ⟨z, 2, none⟩ = some (.slice eo j ek) ∧ W.cell? ⟨z, 3, none⟩ = some (.slice (some a) m2 tk))) := Lib.hid fun W hW => by
            have ha : (a.add (i * 4)).block < wr.heap.size := by rw [add_block]; have := hS _ hsa; have := HA.out.1; have := HWW2.out.size; omega
            have hzl := World.block_lt_of_cell? _ _ c3
            exact ⟨⟨(hW.cell (p := a.add (i * 4)) ha).trans y0, (hW.cell (p := ⟨(a.add (i * 4)).block, (a.add (i * 4)).off + 1, none⟩) ha).trans y1, (hW.cell (p := ⟨(a.add (i * 4)).block, (a.add (i * 4)).off + 2, none⟩) ha).trans y2, (hW.cell (p := ⟨(a.add (i * 4)).block, (a.add (i * 4)).off + 3, none⟩) ha).trans y3⟩, (hW.cell (p := ⟨z, 2, none⟩) hzl).trans c2, (hW.cell (p := ⟨z, 3, none⟩) hzl).trans c3⟩
          have j0 : (0 : Int) ≤ (i : Int) := by omega
          have j1 : (i : Int) < (m2 : Int) := by omega
          obtain ⟨fv, hfv⟩ : ∃ v, v = f2 fx (Tr.flt.flts j (l2.take i)) := ⟨_, rfl⟩
          rw [← hfv] at HR2 HTK0 ⊢
          clear hfy hem htm hyo hys hsa hek htk hye hyt hy hmem hci hP hfv
          go_upto_region 14 with fail
          clear c0 c1 y0 y1 y2 y3
          have HB4 : Hid (Below wr.heap.size wr wr.drew) := Lib.hid (Below.refl wr.heap.size wr).drew
          cases fy with
          | none =>
            have CF0 : Hid (∀ V, Below wr.heap.size wr V → ∀ va c, StI va (pn + 1) c (path ++ [P]) V → Calls Try.prog 22 #[.agg #[.int .i64 yo, .string ys, .slice eo2 em ek2, .slice to2 tm tk2], .slice va (pn + 1) c] V fun e w' => (∃ qa qn qc, e = .returned (.tuple #[.slice qa qn qc, .bool false]) ∧ qn = 0) ∧ Below V.heap.size V w') := Lib.hid fun V hV va c hst => (CF.out V hV va c hst).mono fun e w' ⟨⟨qa, qn, qc, h1, h2, h0⟩, hb⟩ => ⟨⟨qa, qn, qc, h1, h0 rfl⟩, hb⟩
            clear CF
            cases fv with
            | none =>
              have HTK : Hid (f2 fx (Tr.flt.flts j (l2.take (i + 1))) = none) := Lib.hid HTK0.out
              clear HTK0
              go_region_held3 (fun W => (W.cell? (a.add (i * 4)) = some (.int .i64 yo) ∧ W.cell? ⟨(a.add (i * 4)).block, (a.add (i * 4)).off + 1, none⟩ = some (.string ys) ∧ W.cell? ⟨(a.add (i * 4)).block, (a.add (i * 4)).off + 2, none⟩ = some (.slice eo2 em ek2) ∧ W.cell? ⟨(a.add (i * 4)).block, (a.add (i * 4)).off + 3, none⟩ = some (.slice to2 tm tk2)) ∧ (W.cell? ⟨z, 2, none⟩ = some (.slice eo j ek) ∧ W.cell? ⟨z, 3, none⟩ = some (.slice (some a) m2 tk)))
                (first | exact HBX.out _ HB6.out | exact HBX.out _ HB5.out | exact HBX.out _ HB4.out)
                (first
                  | (go_at_call 54; (with_reducible refine (CW.out _ HB4.out).mono ?_); rintro e w5 ⟨⟨qa, qc, rfl, hq⟩, hb⟩; have HB5 := Lib.hid (below_mono HB4.out hb (Nat.le_refl _)); have HQ5 := Lib.hid hq; clear hb hq)
                  | (go_at_call 22; (with_reducible refine (CF0.out _ HB5.out _ _ HQ5.out).mono ?_); rintro e w6 ⟨⟨ra, rn, rc, rfl, hr⟩, hb⟩; have HB6 := Lib.hid (below_mono HB5.out hb (Nat.le_refl _)); have HR6 := Lib.hid hr; clear hb hr))
              all_goals
                clear c2 c3
                go_wp2_with (first | (go_at_call 55; (with_reducible refine (better_no _ _ _ _ _ _ _ _).mono ?_); rintro e w7 ⟨rfl, hb⟩; have HB7 := Lib.hid (below_mono HB6.out hb (Nat.le_refl _)); have HB67 := Lib.hid hb; clear hb))
                go_roundw
                case rel => exact ⟨i + 1, ra, rn, rc, by omega, rfl, by rw [HTK.out]; rfl, by go_num, Lib.hid ⟨⟨(fun p hp => by rw [HTK.out] at hp; cases hp), (fun _ => HR6.out)⟩, below_mono HR2.out.2 HB7.out (Nat.le_refl _)⟩⟩
                case measure => simp [intOf]; omega
            | some p0 =>
              have HP0 := Lib.hid (HR2.out.1.1 p0 rfl)
              have HTK : Hid (f2 fx (Tr.flt.flts j (l2.take (i + 1))) = some p0) := Lib.hid HTK0.out
              clear HTK0
              go_region_held3 (fun W => (W.cell? (a.add (i * 4)) = some (.int .i64 yo) ∧ W.cell? ⟨(a.add (i * 4)).block, (a.add (i * 4)).off + 1, none⟩ = some (.string ys) ∧ W.cell? ⟨(a.add (i * 4)).block, (a.add (i * 4)).off + 2, none⟩ = some (.slice eo2 em ek2) ∧ W.cell? ⟨(a.add (i * 4)).block, (a.add (i * 4)).off + 3, none⟩ = some (.slice to2 tm tk2)) ∧ (W.cell? ⟨z, 2, none⟩ = some (.slice eo j ek) ∧ W.cell? ⟨z, 3, none⟩ = some (.slice (some a) m2 tk)))
                (first | exact HBX.out _ HB6.out | exact HBX.out _ HB5.out | exact HBX.out _ HB4.out)
                (first
                  | (go_at_call 54; (with_reducible refine (CW.out _ HB4.out).mono ?_); rintro e w5 ⟨⟨qa, qc, rfl, hq⟩, hb⟩; have HB5 := Lib.hid (below_mono HB4.out hb (Nat.le_refl _)); have HQ5 := Lib.hid hq; clear hb hq)
                  | (go_at_call 22; (with_reducible refine (CF0.out _ HB5.out _ _ HQ5.out).mono ?_); rintro e w6 ⟨⟨ra, rn, rc, rfl, hr⟩, hb⟩; have HB6 := Lib.hid (below_mono HB5.out hb (Nat.le_refl _)); have HR6 := Lib.hid hr; clear hb hr))
              all_goals
                clear c2 c3
                go_wp2_with (first | (go_at_call 55; (with_reducible refine (better_keep _ _ _ _ _ _ _).mono ?_); rintro e w7 ⟨rfl, hb⟩; have HB7 := Lib.hid (below_mono HB6.out hb (Nat.le_refl _)); have HB67 := Lib.hid hb; clear hb))
                go_roundw
                case rel => exact ⟨i + 1, da, dn, dc, by omega, rfl, by rw [HTK.out]; rfl, by go_num, Lib.hid ⟨⟨(fun p hp => by rw [HTK.out] at hp; cases hp; obtain ⟨h1, h2, i0, p1, h3, h4⟩ := HP0.out; exact ⟨h1.next HB7.out, h2, i0, p1, h3, by push_cast; omega⟩), (fun h => by rw [HTK.out] at h; cases h)⟩, below_mono HR2.out.2 HB7.out (Nat.le_refl _)⟩⟩
                case measure => simp [intOf]; omega
          | some py =>
            have CF1 : Hid (∀ V, Below wr.heap.size wr V → ∀ va c, StI va (pn + 1) c (path ++ [P]) V → Calls Try.prog 22 #[.agg #[.int .i64 yo, .string ys, .slice eo2 em ek2, .slice to2 tm tk2], .slice va (pn + 1) c] V fun e w' => (∃ qa qn qc, e = .returned (.tuple #[.slice qa qn qc, .bool true]) ∧ StI qa qn qc (path ++ (P :: py)) w') ∧ Below V.heap.size V w') := Lib.hid fun V hV va c hst => (CF.out V hV va c hst).mono fun e w' ⟨⟨qa, qn, qc, h1, h2, h0⟩, hb⟩ => by
              have h3 := h2 _ rfl
              rw [List.append_assoc] at h3
              exact ⟨⟨qa, qn, qc, h1, h3⟩, hb⟩
            have HDY := Lib.hid (HDL.out py rfl)
            clear CF
            cases fv with
            | none =>
              have HTK : Hid (f2 fx (Tr.flt.flts j (l2.take (i + 1))) = some (P :: py)) := Lib.hid HTK0.out
              clear HTK0
              go_region_held3 (fun W => (W.cell? (a.add (i * 4)) = some (.int .i64 yo) ∧ W.cell? ⟨(a.add (i * 4)).block, (a.add (i * 4)).off + 1, none⟩ = some (.string ys) ∧ W.cell? ⟨(a.add (i * 4)).block, (a.add (i * 4)).off + 2, none⟩ = some (.slice eo2 em ek2) ∧ W.cell? ⟨(a.add (i * 4)).block, (a.add (i * 4)).off + 3, none⟩ = some (.slice to2 tm tk2)) ∧ (W.cell? ⟨z, 2, none⟩ = some (.slice eo j ek) ∧ W.cell? ⟨z, 3, none⟩ = some (.slice (some a) m2 tk)))
                (first | exact HBX.out _ HB6.out | exact HBX.out _ HB5.out | exact HBX.out _ HB4.out)
                (first
                  | (go_at_call 54; (with_reducible refine (CW.out _ HB4.out).mono ?_); rintro e w5 ⟨⟨qa, qc, rfl, hq⟩, hb⟩; have HB5 := Lib.hid (below_mono HB4.out hb (Nat.le_refl _)); have HQ5 := Lib.hid hq; clear hb hq)
                  | (go_at_call 22; (with_reducible refine (CF1.out _ HB5.out _ _ HQ5.out).mono ?_); rintro e w6 ⟨⟨ra, rn, rc, rfl, hr⟩, hb⟩; have HB6 := Lib.hid (below_mono HB5.out hb (Nat.le_refl _)); have HR6 := Lib.hid hr; clear hb hr))
              all_goals
                clear c2 c3
                go_wp2_with (first | (go_at_call 55; (with_reducible refine (better_no _ _ _ _ _ _ _ _).mono ?_); rintro e w7 ⟨rfl, hb⟩; have HB7 := Lib.hid (below_mono HB6.out hb (Nat.le_refl _)); have HB67 := Lib.hid hb; clear hb))
                go_roundw
                case rel => exact ⟨i + 1, ra, rn, rc, by omega, rfl, by rw [HTK.out]; rfl, by go_num, Lib.hid ⟨⟨(fun p hp => by rw [HTK.out] at hp; cases hp; exact ⟨HR6.out.next HB67.out, by have := HDY.out; simp; omega, P, py, rfl, by rw [HPI.out]; push_cast; omega⟩), (fun h => by rw [HTK.out] at h; cases h)⟩, below_mono HR2.out.2 HB7.out (Nat.le_refl _)⟩⟩
                case measure => simp [intOf]; omega
            | some p0 =>
              have HP0 := Lib.hid (HR2.out.1.1 p0 rfl)
              have HTK : Hid (f2 fx (Tr.flt.flts j (l2.take (i + 1))) = some p0) := Lib.hid HTK0.out
              clear HTK0
              go_region_held3 (fun W => (W.cell? (a.add (i * 4)) = some (.int .i64 yo) ∧ W.cell? ⟨(a.add (i * 4)).block, (a.add (i * 4)).off + 1, none⟩ = some (.string ys) ∧ W.cell? ⟨(a.add (i * 4)).block, (a.add (i * 4)).off + 2, none⟩ = some (.slice eo2 em ek2) ∧ W.cell? ⟨(a.add (i * 4)).block, (a.add (i * 4)).off + 3, none⟩ = some (.slice to2 tm tk2)) ∧ (W.cell? ⟨z, 2, none⟩ = some (.slice eo j ek) ∧ W.cell? ⟨z, 3, none⟩ = some (.slice (some a) m2 tk)))
                (first | exact HBX.out _ HB6.out | exact HBX.out _ HB5.out | exact HBX.out _ HB4.out)
                (first
                  | (go_at_call 54; (with_reducible refine (CW.out _ HB4.out).mono ?_); rintro e w5 ⟨⟨qa, qc, rfl, hq⟩, hb⟩; have HB5 := Lib.hid (below_mono HB4.out hb (Nat.le_refl _)); have HQ5 := Lib.hid hq; clear hb hq)
                  | (go_at_call 22; (with_reducible refine (CF1.out _ HB5.out _ _ HQ5.out).mono ?_); rintro e w6 ⟨⟨ra, rn, rc, rfl, hr⟩, hb⟩; have HB6 := Lib.hid (below_mono HB5.out hb (Nat.le_refl _)); have HR6 := Lib.hid hr; clear hb hr))
              all_goals
                clear c2 c3
                go_wp2_with (first | (go_at_call 55; (with_reducible refine (better_first _ _ _ _ _ _ _ _ _ (HP0.out.1.next HB6.out) HR6.out (by have h1 := HP0.out.1.len; have h2 := HP0.out.2.1; have h3 := HR6.out.len; have h4 := HDY.out; have h5 := HA.out.2.1; have h6 := HPL.out; simp at h1 h3; omega) (by obtain ⟨_, _, i0, p1, h3, h4⟩ := HP0.out; rw [h3, lexLt_pre]; exact lexLt_head (by rw [HPI.out]; exact h4) _ _)).mono ?_); rintro e w7 ⟨rfl, hb⟩; have HB7 := Lib.hid (below_mono HB6.out hb (Nat.le_refl _)); have HB67 := Lib.hid hb; clear hb))
                go_roundw
                case rel => exact ⟨i + 1, da, dn, dc, by omega, rfl, by rw [HTK.out]; rfl, by go_num, Lib.hid ⟨⟨(fun p hp => by rw [HTK.out] at hp; cases hp; obtain ⟨h1, h2, i0, p1, h3, h4⟩ := HP0.out; exact ⟨h1.next HB7.out, h2, i0, p1, h3, by push_cast; omega⟩), (fun h => by rw [HTK.out] at h; cases h)⟩, below_mono HR2.out.2 HB7.out (Nat.le_refl _)⟩⟩
                case measure => simp [intOf]; omega
        · obtain rfl : i = m2 := by omega
          have HTE : Hid (f2 fx (Tr.flt.flts j (l2.take i)) = RES) := Lib.hid (by rw [HRF.out, List.take_of_length_le (by rw [HM2.out]; exact Nat.le_refl _)])
          rw [HTE.out] at HR2 ⊢
          have hfin : ExP path RES w (.returned (.tuple #[.slice da dn dc, .bool RES.isSome])) wr := ⟨⟨da, dn, dc, rfl, (fun p hp => (HR2.out.1.1 p hp).1), HR2.out.1.2⟩, HWW2.out⟩
          go_wp2_with fail
          go_ret2
          exact hfin
end Go.Proofs.Ytidldlhhmophjaa
