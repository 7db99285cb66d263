/- Layer 21: the first expression without a kind, by the document. Conditions: those written at each theorem. -/
import Derived.Test.YtidldlhhmophjaaFtE
namespace Go.Proofs.Ytidldlhhmophjaa
open Go.RowKit Go.PlainAid Go.Sort
set_option linter.unusedVariables false
set_option linter.unusedSimpArgs false
/-- The first path of those without a kind, in a list. -/
def fsX : Int → List Xp → Option (List Int)
  | _, [] => none
  | i, y :: t => if y.knd = 0 then some (i :: y.dst) else fsX (i + 1) t
theorem fsX_take {l : List Xp} {y : Xp} : ∀ {j : Nat} {i : Int}, l[j]? = some y → fsX i (l.take (j + 1)) = match fsX i (l.take j) with | some p => some p | none => if y.knd = 0 then some ((i + j) :: y.dst) else none := by
  induction l with
  | nil => intro j i h; simp at h
  | cons a t ih =>
    intro j i h
    cases j with
    | zero =>
      simp at h
      subst h
      simp [fsX]
    | succ j =>
      have h' : t[j]? = some y := by simpa using h
      have := ih (i := i + 1) h'
      simp only [List.take_succ_cons, fsX]
      by_cases hk : a.knd = 0
      · simp [hk]
      · rw [if_neg hk, if_neg hk, this, show i + 1 + (j : Int) = i + ((j + 1 : Nat) : Int) from by push_cast; omega]
theorem dsts_fs (l : List Xp) : ∀ i, Xp.dst.dsts i l = (fsX i l).getD [] := by
  induction l with
  | nil => intro i; rfl
  | cons a t ih =>
    intro i
    unfold Xp.dst.dsts fsX
    split
    · rfl
    · exact ih _
theorem fs_none {l : List Xp} : ∀ {i : Int}, (∀ y ∈ l, y.knd ≠ 0) → fsX i l = none := by
  induction l with
  | nil => intro i _; rfl
  | cons a t ih =>
    intro i h
    unfold fsX
    rw [if_neg (h a (by simp))]
    exact ih fun y hy => h y (by simp [hy])
theorem kids_knd {x : Xp} (hb : x.blt = true) (hk : x.knd ≠ 0) : ∀ y ∈ x.args, y.knd ≠ 0 := by
  intro y hy
  obtain ⟨hlen, ho, _⟩ := xblt_len hb
  rw [x.knd_eq] at hk
  have hm : y.knd ∈ x.args.map Xp.knd := List.mem_map.2 ⟨y, hy, rfl⟩
  have hl : (x.args.map Xp.knd).length = x.args.length := by simp
  revert hk hm
  generalize hks : x.args.map Xp.knd = ks at *
  intro hk hm
  have hall : ∀ q, q ≠ 0 → ks.all (· == q) = true → y.knd ≠ 0 := fun q hq h => by
    have := List.all_eq_true.1 h _ hm
    simp at this
    omega
  unfold kndN at hk
  split at hk
  · rename_i h4
    unfold kidX at hlen
    have : x.args.length = 0 := by (repeat' split at hlen) <;> omega
    have := List.length_eq_zero_iff.1 this
    rw [this] at hy
    cases hy
  · split at hk
    · split at hk
      · rename_i h; exact hall 1 (by omega) h
      · exact absurd rfl hk
    · split at hk
      · split at hk
        · rename_i h; exact hall 1 (by omega) h
        · exact absurd rfl hk
      · split at hk
        · split at hk
          · rename_i h; exact hall 2 (by omega) h
          · exact absurd rfl hk
        · split at hk
          · rename_i a b t
            split at hk
            · split at hk
              · rename_i h2 h3
                rcases List.mem_cons.1 hm with h | h
                · omega
                · rcases List.mem_cons.1 h with h | h
                  · omega
                  · have := List.all_eq_true.1 h3 _ h
                    simp at this
                    omega
              · exact absurd rfl hk
            · exact absurd rfl hk
          · exact absurd rfl hk
theorem dst_len (x : Xp) : x.dst.length ≤ x.dep := by
  induction x using Xp.ind with
  | h x IH =>
  rw [x.dst_eq, x.dep_eq]
  have : ∀ (l : List Xp) (i : Int), (∀ y ∈ l, y.dst.length ≤ y.dep) → (Xp.dst.dsts i l).length ≤ 1 + Xp.dep.deps l := by
    intro l
    induction l with
    | nil => intro i _; simp [Xp.dst.dsts]
    | cons a t ih =>
      intro i h
      have h1 := h a (by simp)
      have h2 := ih (i + 1) fun y hy => h y (by simp [hy])
      unfold Xp.dst.dsts Xp.dep.deps
      split
      · simp; omega
      · omega
  exact this _ _ IH
theorem lexLt_head {x y : Int} (h : y < x) (a b : List Int) : lexLt (x :: a) (y :: b) = false := by
  unfold lexLt
  rw [if_neg (by omega)]
  exact decide_eq_false (by omega)
/-- What exprs gives. -/
def ExP (path : List Int) (res : Option (List Int)) (w : World) (e : Ending) (w' : World) : Prop := (∃ qa qn qc, e = .returned (.tuple #[.slice qa qn qc, .bool res.isSome]) ∧ (∀ p, res = some p → StI qa qn qc (path ++ p) w') ∧ (res = none → qn = 0)) ∧ Below w.heap.size w w'
def Xp.ex0 (x : Xp) : Option (List Int) := if x.knd = 0 then some x.dst else none
set_option maxRecDepth 100000 in
set_option maxHeartbeats 16000000 in
theorem exprs_any {S : Nat → Prop} {B : Nat} (hS : ∀ b, S b → b < B) (x : Xp) : ∀ (bo : Option Addr) (k : Nat) (w : World) (pa : Option Addr) (pn pc : Nat) (path : List Int), B ≤ w.heap.size → x.blt = true → x.args.length ≤ k → ExL S w x.args bo → StI pa pn pc path w → pn + x.dep ≤ 9000 →
    Calls Try.prog 53 #[exV x bo k, .slice pa pn pc] w (ExP path x.ex0 w) := by
  induction x using Xp.ind with
  | h x IH =>
  intro bo k w pa pn pc path hB hb hk hx hp hn
  obtain ⟨hlen, _, hbl⟩ := xblt_len hb
  have hds := x.dst_eq
  have hde := x.dep_eq
  have hkk := kids_knd hb
  obtain ⟨l, hl'⟩ : ∃ l, l = x.args := ⟨_, rfl⟩
  have CQE : Hid (∀ V, Below w.heap.size w V → Calls Try.prog 18 #[exV x bo k] V fun e w' => e = .returned (.int .i64 (x.knd : Nat)) ∧ Below V.heap.size V w') := Lib.hid fun V hV => rkind_any (S := S) (B := B) hS x bo k V (by have := hV.size; omega) hb hk (hx.stay (fun _ h => h) fun b hb => hV.block b (by have := hS b hb; omega))
  rw [← hl'] at IH hk hx hlen hbl hds hde hkk
  rw [dsts_fs] at hds
  have HX : Hid (∀ W, Below w.heap.size w W → ExL S W l bo) := Lib.hid fun W hW => hx.stay (fun _ h => h) fun b hb => hW.block b (by have := hS b hb; omega)
  have CK : Hid (∀ y ∈ l, ∀ (co : Option Addr) (ck : Nat), y.args.length ≤ ck → ∀ W, Below w.heap.size w W → ExL S W y.args co → Calls Try.prog 18 #[exV y co ck] W fun e w' => e = .returned (.int .i64 (y.knd : Nat)) ∧ Below W.heap.size W w') := Lib.hid fun y hy co ck h1 W hW h2 => rkind_any (S := S) (B := B) hS y co ck W (by have := hW.size; omega) (hbl y hy) h1 h2
  have HI := Lib.hid IH
  have HBL := Lib.hid hbl
  have HDS := Lib.hid hds
  have HKK := Lib.hid hkk
  have HA := Lib.hid (And.intro hB (And.intro hn hde))
  have HP := Lib.hid hp
  have HPL := Lib.hid hp.len
  obtain ⟨m, hm⟩ : ∃ m, m = l.length := ⟨_, rfl⟩
  have HM := Lib.hid hm
  have hm3 : m ≤ 3 := by
    have : kidX x.op ≤ 3 := by unfold kidX; repeat' split <;> omega
    omega
  obtain ⟨xo, hxo⟩ : ∃ v, v = x.op := ⟨_, rfl⟩
  obtain ⟨xn, hxn⟩ : ∃ v, v = x.n := ⟨_, rfl⟩
  obtain ⟨xs, hxs⟩ : ∃ v, v = x.nm := ⟨_, rfl⟩
  have hxe : exV x bo k = .agg #[.int .i64 xo, .int .i64 xn, .string xs, .slice bo m k] := by rw [hm, hl', hxo, hxn, hxs]
  rw [hxe] at CQE ⊢
  obtain ⟨RES, hRES⟩ : ∃ v, v = x.ex0 := ⟨_, rfl⟩
  rw [← hRES]
  obtain ⟨kx, hkx⟩ : ∃ v, v = x.knd := ⟨_, rfl⟩
  have HR0 : Hid (RES = if kx = 0 then some x.dst else none) := Lib.hid (by rw [hRES, hkx]; rfl)
  rw [← hkx] at CQE HKK
  have GA := Lib.hid (cells_made #[.int .i64 xo, .int .i64 xn, .string xs, .slice bo m k] 34 w)
  clear IH hB hb hk hx hp hn hlen hbl hl' hm hxo hxn hxs hRES hds hde hkk hxe hkx
  go_enter Try.func53, Try.ntmps53
  go_upto_region 1 with fail
  obtain ⟨z, hz⟩ : ∃ z, z = w.heap.size := ⟨_, rfl⟩
  obtain ⟨W, hW⟩ : ∃ X, w.alloc (.cells #[.int .i64 xo, .int .i64 xn, .string xs, .slice bo m k] 34) = X := ⟨_, rfl⟩
  obtain ⟨g1, b1, s1⟩ := GA.out W hW
  rw [hW, ← hz]
  rw [← hz] at b1
  have HG := Lib.hid g1
  have HB1 := Lib.hid b1
  clear hW g1 b1 s1 GA hz
  go_upto_region 5 with fail
  go_loopw [6, 7, 8, 9] (fun v6 v7 v8 v9 wr => ∃ (j : Nat) (ba : Option Addr) (bn bc : Nat), j ≤ m ∧ v6 = .slice ba bn bc ∧ v7 = .bool (fsX 0 (l.take j)).isSome ∧ v8 = .bool (fsX 0 (l.take j)).isNone ∧ v9 = .int .i64 j ∧ Hid (((∀ p, fsX 0 (l.take j) = some p → StI ba bn bc (path ++ p) wr ∧ p.length ≤ x.dep ∧ ∃ (i0 : Int) (p' : List Int), p = i0 :: p' ∧ i0 < j) ∧ (fsX 0 (l.take j) = none → bn = 0)) ∧ Below W.heap.size W wr)) (fun _ _ _ v _ => m - (intOf v).toNat)
  case atStart => exact ⟨0, none, 0, 0, by omega, rfl, rfl, rfl, rfl, Lib.hid ⟨⟨fun p hp => by simp [fsX] at hp, fun _ => rfl⟩, Below.refl _ _⟩⟩
  case round =>
    obtain ⟨j, ba, bn, bc, hj, rfl, rfl, rfl, rfl, HR⟩ := hrel
    have HWW := Lib.hid (below_mono HG.out HR.out.2 (Nat.le_refl _))
    obtain ⟨c0, c1, c2, c3⟩ := quad ((HR.out.2.block z (lt_of_heap HB1.out)).trans HB1.out)
    by_cases hlt : j < m
    · obtain ⟨y, hy⟩ : ∃ y, l[j]? = some y := ⟨_, List.getElem?_eq_getElem (by rw [← HM.out]; exact hlt)⟩
      have hmem := List.mem_of_getElem? hy
      have hdi := (cnts_in hy).2
      obtain ⟨a, co, ck, rfl, hsa, hck, ⟨y0, y1, y2, y3⟩, hyl⟩ := (HX.out wr HWW.out).get hy
      have HTK0 := Lib.hid (fsX_take (i := 0) hy)
      have CKy : Hid (∀ V, Below wr.heap.size wr V → Calls Try.prog 18 #[exV y co ck] V fun e w' => e = .returned (.int .i64 (y.knd : Nat)) ∧ Below V.heap.size V w') := Lib.hid fun V hV => CK.out y hmem co ck hck V (below_mono HWW.out hV (Nat.le_refl _)) (hyl.stay (fun _ h => h) fun b hb => hV.block b (by have := hS b hb; have := HA.out.1; have := HWW.out.size; omega))
      have CW : Hid (∀ V, Below wr.heap.size wr V → Calls Try.prog 54 #[.slice pa pn pc, .int .i64 j] V fun e w' => (∃ qa qc, e = .returned (.slice qa (pn + 1) qc) ∧ StI qa (pn + 1) qc (path ++ [(j : Int)]) w') ∧ Below V.heap.size V w') := Lib.hid fun V hV => with_any pa pn pc path j V (HP.out.next (below_mono HWW.out hV (Nat.le_refl _))) (by have := HA.out.2.1; omega)
      have CX : Hid (∀ V, Below wr.heap.size wr V → ∀ va c, StI va (pn + 1) c (path ++ [(j : Int)]) V → Calls Try.prog 53 #[exV y co ck, .slice va (pn + 1) c] V (ExP (path ++ [(j : Int)]) y.ex0 V)) := Lib.hid fun V hV va c hst => HI.out y hmem co ck V va (pn + 1) c (path ++ [(j : Int)]) (by have := HA.out.1; have := (below_mono HWW.out hV (Nat.le_refl _)).size; omega) (HBL.out y hmem) hck (hyl.stay (fun _ h => h) fun b hb => hV.block b (by have := hS b hb; have := HA.out.1; have := HWW.out.size; omega)) hst (by
        have := HA.out.2
        omega)
      have HEX : Hid (y.ex0 = if y.knd = 0 then some y.dst else none) := Lib.hid rfl
      have HDL : Hid (y.dst.length + 1 ≤ x.dep) := Lib.hid (by have := dst_len y; have := HA.out.2.2; omega)
      obtain ⟨kn, hkn⟩ : ∃ v, v = y.knd := ⟨_, rfl⟩
      obtain ⟨yd, hyd⟩ : ∃ v, v = y.dst := ⟨_, rfl⟩
      obtain ⟨ye, hye0⟩ : ∃ v, v = y.ex0 := ⟨_, rfl⟩
      rw [← hkn, ← hyd] at HTK0
      rw [← hkn] at CKy
      rw [← hye0] at CX
      rw [← hye0, ← hkn, ← hyd] at HEX
      rw [← hyd] at HDL
      obtain ⟨cm, hcm⟩ : ∃ c, c = y.args.length := ⟨_, rfl⟩
      obtain ⟨yo, hyo⟩ : ∃ v, v = y.op := ⟨_, rfl⟩
      obtain ⟨yn, hyn⟩ : ∃ v, v = y.n := ⟨_, rfl⟩
      obtain ⟨ys, hys⟩ : ∃ v, v = y.nm := ⟨_, rfl⟩
      have hye : exV y co ck = .agg #[.int .i64 yo, .int .i64 yn, .string ys, .slice co cm ck] := by rw [hcm, hyo, hyn, hys]
      rw [hye] at CKy CX
      rw [← hcm] at y3
      rw [← hyo] at y0
      rw [← hyn] at y1
      rw [← hys] at y2
      have HBX : Hid (∀ W, Below wr.heap.size wr W → (W.cell? (a.add (j * 4)) = some (.int .i64 yo) ∧ W.cell? ⟨(a.add (j * 4)).block, (a.add (j * 4)).off + 1, none⟩ = some (.int .i64 yn) ∧ W.cell? ⟨(a.add (j * 4)).block, (a.add (j * 4)).off + 2, none⟩ = some (.string ys) ∧ W.cell? ⟨(a.add (j * 4)).block, (a.add (j * 4)).off + 3, none⟩ = some (.slice co cm ck)) ∧ W.cell? ⟨z, 3, none⟩ = some (.slice (some a) m k)) := Lib.hid fun W hW => by
        have ha : (a.add (j * 4)).block < wr.heap.size := by rw [add_block]; have := hS _ hsa; have := HA.out.1; have := HWW.out.size; omega
        exact ⟨⟨(hW.cell (p := a.add (j * 4)) ha).trans y0, (hW.cell (p := ⟨(a.add (j * 4)).block, (a.add (j * 4)).off + 1, none⟩) ha).trans y1, (hW.cell (p := ⟨(a.add (j * 4)).block, (a.add (j * 4)).off + 2, none⟩) ha).trans y2, (hW.cell (p := ⟨(a.add (j * 4)).block, (a.add (j * 4)).off + 3, none⟩) ha).trans y3⟩, (hW.cell (p := ⟨z, 3, none⟩) (World.block_lt_of_cell? _ _ c3)).trans c3⟩
      have j0 : (0 : Int) ≤ (j : Int) := by omega
      have j1 : (j : Int) < (m : Int) := by omega
      obtain ⟨fv, hfv⟩ : ∃ v, v = fsX 0 (l.take j) := ⟨_, rfl⟩
      rw [← hfv] at HR HTK0 ⊢
      clear hcm hyo hyn hys hsa hck hyl hy hmem hkn hyd hye hdi hye0 hfv
      cases fv with
      | none =>
        by_cases hk0 : kn = 0
        · have HTK : Hid (fsX 0 (l.take (j + 1)) = some ((j : Int) :: yd)) := Lib.hid (by rw [HTK0.out]; show (if kn = 0 then _ else _) = _; rw [if_pos hk0, Int.zero_add])
          have CK0 : Hid (∀ V, Below wr.heap.size wr V → Calls Try.prog 18 #[.agg #[.int .i64 yo, .int .i64 yn, .string ys, .slice co cm ck]] V fun e w' => e = .returned (.int .i64 0) ∧ Below V.heap.size V w') := by rw [hk0] at CKy; exact CKy
          have CX1 : Hid (∀ V, Below wr.heap.size wr V → ∀ va c, StI va (pn + 1) c (path ++ [(j : Int)]) V → Calls Try.prog 53 #[.agg #[.int .i64 yo, .int .i64 yn, .string ys, .slice co cm ck], .slice va (pn + 1) c] V fun e w' => (∃ qa qn qc, e = .returned (.tuple #[.slice qa qn qc, .bool true]) ∧ StI qa qn qc (path ++ ((j : Int) :: yd)) w') ∧ Below V.heap.size V w') := Lib.hid fun V hV va c hst => (CX.out V hV va c hst).mono fun e w' ⟨⟨qa, qn, qc, h1, h2, h0⟩, hb⟩ => by
            rw [HEX.out, if_pos hk0] at h1 h2
            have h3 := h2 _ rfl
            rw [List.append_assoc] at h3
            exact ⟨⟨qa, qn, qc, h1, h3⟩, hb⟩
          clear CKy CX hk0 HTK0
          go_upto_region 8 with (go_at_call 18; (with_reducible refine (CK0.out _ (Below.refl _ _)).mono ?_); rintro e w4 ⟨rfl, hb⟩; have HB4 := Lib.hid hb; clear hb)
          clear c0 c1 c2 c3 y0 y1 y2 y3
          obtain ⟨_, c3⟩ := HBX.out w4 HB4.out
          have HBE : Hid (Below wr.heap.size wr w4.drew) := Lib.hid HB4.out.drew
          go_upto_region 8 with fail
          go_region_held3 (fun W => (W.cell? (a.add (j * 4)) = some (.int .i64 yo) ∧ W.cell? ⟨(a.add (j * 4)).block, (a.add (j * 4)).off + 1, none⟩ = some (.int .i64 yn) ∧ W.cell? ⟨(a.add (j * 4)).block, (a.add (j * 4)).off + 2, none⟩ = some (.string ys) ∧ W.cell? ⟨(a.add (j * 4)).block, (a.add (j * 4)).off + 3, none⟩ = some (.slice co cm ck)) ∧ W.cell? ⟨z, 3, none⟩ = some (.slice (some a) m k))
            (first | exact HBX.out _ HB6.out | exact HBX.out _ HB5.out | exact HBX.out _ HBE.out)
            (first
              | (go_at_call 54; (with_reducible refine (CW.out _ HBE.out).mono ?_); rintro e w5 ⟨⟨qa, qc, rfl, hq⟩, hb⟩; have HB5 := Lib.hid (below_mono HBE.out hb (Nat.le_refl _)); have HQ5 := Lib.hid hq; clear hb hq)
              | (go_at_call 53; (with_reducible refine (CX1.out _ HB5.out _ _ HQ5.out).mono ?_); rintro e w6 ⟨⟨ra, rn, rc, rfl, hr⟩, hb⟩; have HB6 := Lib.hid (below_mono HB5.out hb (Nat.le_refl _)); have HR6 := Lib.hid hr; clear hb hr))
          all_goals
            clear c3
            go_wp2_with (go_at_call 55; (with_reducible refine (better_no _ _ _ _ _ _ _ _).mono ?_); rintro e w7 ⟨rfl, hb⟩; have HB7 := Lib.hid (below_mono HB6.out hb (Nat.le_refl _)); have HB67 := Lib.hid hb; clear hb)
            go_roundw
            case rel => exact ⟨j + 1, ra, rn, rc, by omega, rfl, by rw [HTK.out]; rfl, by rw [HTK.out]; rfl, by go_num, Lib.hid ⟨⟨(fun p hp => by rw [HTK.out] at hp; cases hp; exact ⟨HR6.out.next HB67.out, by have := HDL.out; simp; omega, (j : Int), yd, rfl, by omega⟩), (fun h => by rw [HTK.out] at h; cases h)⟩, below_mono HR.out.2 HB7.out (Nat.le_refl _)⟩⟩
            case measure => simp [intOf]; omega
        · have HTK : Hid (fsX 0 (l.take (j + 1)) = none) := Lib.hid (by rw [HTK0.out]; show (if kn = 0 then _ else _) = _; rw [if_neg hk0])
          have hkb : ((kn : Int) == 0) = false := by simp; omega
          obtain ⟨K, hK⟩ : ∃ K : Int, K = (kn : Nat) := ⟨_, rfl⟩
          rw [← hK] at CKy hkb
          have hkb2 : (K != 0) = true := by simp [bne, hkb]
          have CX0 : Hid (∀ V, Below wr.heap.size wr V → ∀ va c, StI va (pn + 1) c (path ++ [(j : Int)]) V → Calls Try.prog 53 #[.agg #[.int .i64 yo, .int .i64 yn, .string ys, .slice co cm ck], .slice va (pn + 1) c] V fun e w' => (∃ qa qn qc, e = .returned (.tuple #[.slice qa qn qc, .bool false]) ∧ qn = 0) ∧ Below V.heap.size V w') := Lib.hid fun V hV va c hst => (CX.out V hV va c hst).mono fun e w' ⟨⟨qa, qn, qc, h1, h2, h0⟩, hb⟩ => by
            rw [HEX.out, if_neg hk0] at h1
            exact ⟨⟨qa, qn, qc, h1, h0 (by rw [HEX.out, if_neg hk0])⟩, hb⟩
          clear CX hk0 HTK0 hK
          go_upto_region 8 with (go_at_call 18; (with_reducible refine (CKy.out _ (Below.refl _ _)).mono ?_); rintro e w4 ⟨rfl, hb⟩; have HB4 := Lib.hid hb; clear hb)
          clear c0 c1 c2 c3 y0 y1 y2 y3
          obtain ⟨_, c3⟩ := HBX.out w4 HB4.out
          have HBE : Hid (Below wr.heap.size wr w4.drew) := Lib.hid HB4.out.drew
          go_upto_region 8 with fail
          go_region_held3 (fun W => (W.cell? (a.add (j * 4)) = some (.int .i64 yo) ∧ W.cell? ⟨(a.add (j * 4)).block, (a.add (j * 4)).off + 1, none⟩ = some (.int .i64 yn) ∧ W.cell? ⟨(a.add (j * 4)).block, (a.add (j * 4)).off + 2, none⟩ = some (.string ys) ∧ W.cell? ⟨(a.add (j * 4)).block, (a.add (j * 4)).off + 3, none⟩ = some (.slice co cm ck)) ∧ W.cell? ⟨z, 3, none⟩ = some (.slice (some a) m k))
            (first | exact HBX.out _ HB6.out | exact HBX.out _ HB5.out | exact HBX.out _ HBE.out)
            (first
              | (go_at_call 54; (with_reducible refine (CW.out _ HBE.out).mono ?_); rintro e w5 ⟨⟨qa, qc, rfl, hq⟩, hb⟩; have HB5 := Lib.hid (below_mono HBE.out hb (Nat.le_refl _)); have HQ5 := Lib.hid hq; clear hb hq)
              | (go_at_call 53; (with_reducible refine (CX0.out _ HB5.out _ _ HQ5.out).mono ?_); rintro e w6 ⟨⟨ra, rn, rc, rfl, hr⟩, hb⟩; have HB6 := Lib.hid (below_mono HB5.out hb (Nat.le_refl _)); have HR6 := Lib.hid hr; clear hb hr))
          all_goals
            clear c3
            go_wp2_with (go_at_call 55; (with_reducible refine (better_no _ _ _ _ _ _ _ _).mono ?_); rintro e w7 ⟨rfl, hb⟩; have HB7 := Lib.hid (below_mono HB6.out hb (Nat.le_refl _)); have HB67 := Lib.hid hb; clear hb)
            go_roundw
            case rel => exact ⟨j + 1, ra, rn, rc, by omega, rfl, by rw [HTK.out]; rfl, by rw [HTK.out]; rfl, by go_num, Lib.hid ⟨⟨(fun p hp => by rw [HTK.out] at hp; cases hp), (fun _ => HR6.out)⟩, below_mono HR.out.2 HB7.out (Nat.le_refl _)⟩⟩
            case measure => simp [intOf]; omega
      | some p0 =>
        have HP0 := Lib.hid (HR.out.1.1 p0 rfl)
        have HTK : Hid (fsX 0 (l.take (j + 1)) = some p0) := Lib.hid HTK0.out
        have HB4 : Hid (Below wr.heap.size wr wr) := Lib.hid (Below.refl _ _)
        by_cases hk0 : kn = 0
        · have CX1 : Hid (∀ V, Below wr.heap.size wr V → ∀ va c, StI va (pn + 1) c (path ++ [(j : Int)]) V → Calls Try.prog 53 #[.agg #[.int .i64 yo, .int .i64 yn, .string ys, .slice co cm ck], .slice va (pn + 1) c] V fun e w' => (∃ qa qn qc, e = .returned (.tuple #[.slice qa qn qc, .bool true]) ∧ StI qa qn qc (path ++ ((j : Int) :: yd)) w') ∧ Below V.heap.size V w') := Lib.hid fun V hV va c hst => (CX.out V hV va c hst).mono fun e w' ⟨⟨qa, qn, qc, h1, h2, h0⟩, hb⟩ => by
            rw [HEX.out, if_pos hk0] at h1 h2
            have h3 := h2 _ rfl
            rw [List.append_assoc] at h3
            exact ⟨⟨qa, qn, qc, h1, h3⟩, hb⟩
          clear CKy CX hk0 HTK0
          go_upto_region 8 with fail
          clear c0 c1 c2 c3 y0 y1 y2 y3
          obtain ⟨_, c3⟩ := HBX.out wr HB4.out
          have HBE : Hid (Below wr.heap.size wr wr.drew) := Lib.hid HB4.out.drew
          go_upto_region 8 with fail
          go_region_held3 (fun W => (W.cell? (a.add (j * 4)) = some (.int .i64 yo) ∧ W.cell? ⟨(a.add (j * 4)).block, (a.add (j * 4)).off + 1, none⟩ = some (.int .i64 yn) ∧ W.cell? ⟨(a.add (j * 4)).block, (a.add (j * 4)).off + 2, none⟩ = some (.string ys) ∧ W.cell? ⟨(a.add (j * 4)).block, (a.add (j * 4)).off + 3, none⟩ = some (.slice co cm ck)) ∧ W.cell? ⟨z, 3, none⟩ = some (.slice (some a) m k))
            (first | exact HBX.out _ HB6.out | exact HBX.out _ HB5.out | exact HBX.out _ HBE.out)
            (first
              | (go_at_call 54; (with_reducible refine (CW.out _ HBE.out).mono ?_); rintro e w5 ⟨⟨qa, qc, rfl, hq⟩, hb⟩; have HB5 := Lib.hid (below_mono HBE.out hb (Nat.le_refl _)); have HQ5 := Lib.hid hq; clear hb hq)
              | (go_at_call 53; (with_reducible refine (CX1.out _ HB5.out _ _ HQ5.out).mono ?_); rintro e w6 ⟨⟨ra, rn, rc, rfl, hr⟩, hb⟩; have HB6 := Lib.hid (below_mono HB5.out hb (Nat.le_refl _)); have HR6 := Lib.hid hr; clear hb hr))
          all_goals
            clear c3
            go_wp2_with (go_at_call 55; (with_reducible refine (better_first _ _ _ _ _ _ _ _ _ (HP0.out.1.next HB6.out) HR6.out (by have h1 := HP0.out.1.len; have h2 := HP0.out.2.1; have h3 := HR6.out.len; have h4 := HDL.out; have h5 := HA.out; have h6 := HPL.out; simp at h1 h3; omega) (by obtain ⟨_, _, i0, p1, h3, h4⟩ := HP0.out; rw [h3, lexLt_pre]; exact lexLt_head h4 _ _)).mono ?_); rintro e w7 ⟨rfl, hb⟩; have HB7 := Lib.hid (below_mono HB6.out hb (Nat.le_refl _)); have HB67 := Lib.hid hb; clear hb)
            go_roundw
            case rel => exact ⟨j + 1, ba, bn, bc, by omega, rfl, by rw [HTK.out]; rfl, by rw [HTK.out]; rfl, by go_num, Lib.hid ⟨⟨(fun p hp => by rw [HTK.out] at hp; cases hp; obtain ⟨h1, h2, i0, p1, h3, h4⟩ := HP0.out; exact ⟨h1.next HB7.out, h2, i0, p1, h3, by omega⟩), (fun h => by rw [HTK.out] at h; cases h)⟩, below_mono HR.out.2 HB7.out (Nat.le_refl _)⟩⟩
            case measure => simp [intOf]; omega
        · have CX0 : Hid (∀ V, Below wr.heap.size wr V → ∀ va c, StI va (pn + 1) c (path ++ [(j : Int)]) V → Calls Try.prog 53 #[.agg #[.int .i64 yo, .int .i64 yn, .string ys, .slice co cm ck], .slice va (pn + 1) c] V fun e w' => (∃ qa qn qc, e = .returned (.tuple #[.slice qa qn qc, .bool false]) ∧ qn = 0) ∧ Below V.heap.size V w') := Lib.hid fun V hV va c hst => (CX.out V hV va c hst).mono fun e w' ⟨⟨qa, qn, qc, h1, h2, h0⟩, hb⟩ => by
            rw [HEX.out, if_neg hk0] at h1
            exact ⟨⟨qa, qn, qc, h1, h0 (by rw [HEX.out, if_neg hk0])⟩, hb⟩
          clear CKy CX hk0 HTK0
          go_upto_region 8 with fail
          clear c0 c1 c2 c3 y0 y1 y2 y3
          obtain ⟨_, c3⟩ := HBX.out wr HB4.out
          have HBE : Hid (Below wr.heap.size wr wr.drew) := Lib.hid HB4.out.drew
          go_upto_region 8 with fail
          go_region_held3 (fun W => (W.cell? (a.add (j * 4)) = some (.int .i64 yo) ∧ W.cell? ⟨(a.add (j * 4)).block, (a.add (j * 4)).off + 1, none⟩ = some (.int .i64 yn) ∧ W.cell? ⟨(a.add (j * 4)).block, (a.add (j * 4)).off + 2, none⟩ = some (.string ys) ∧ W.cell? ⟨(a.add (j * 4)).block, (a.add (j * 4)).off + 3, none⟩ = some (.slice co cm ck)) ∧ W.cell? ⟨z, 3, none⟩ = some (.slice (some a) m k))
            (first | exact HBX.out _ HB6.out | exact HBX.out _ HB5.out | exact HBX.out _ HBE.out)
            (first
              | (go_at_call 54; (with_reducible refine (CW.out _ HBE.out).mono ?_); rintro e w5 ⟨⟨qa, qc, rfl, hq⟩, hb⟩; have HB5 := Lib.hid (below_mono HBE.out hb (Nat.le_refl _)); have HQ5 := Lib.hid hq; clear hb hq)
              | (go_at_call 53; (with_reducible refine (CX0.out _ HB5.out _ _ HQ5.out).mono ?_); rintro e w6 ⟨⟨ra, rn, rc, rfl, hr⟩, hb⟩; have HB6 := Lib.hid (below_mono HB5.out hb (Nat.le_refl _)); have HR6 := Lib.hid hr; clear hb hr))
          all_goals
            clear c3
            go_wp2_with (go_at_call 55; (with_reducible refine (better_keep _ _ _ _ _ _ _).mono ?_); rintro e w7 ⟨rfl, hb⟩; have HB7 := Lib.hid (below_mono HB6.out hb (Nat.le_refl _)); have HB67 := Lib.hid hb; clear hb)
            go_roundw
            case rel => exact ⟨j + 1, ba, bn, bc, by omega, rfl, by rw [HTK.out]; rfl, by rw [HTK.out]; rfl, by go_num, Lib.hid ⟨⟨(fun p hp => by rw [HTK.out] at hp; cases hp; obtain ⟨h1, h2, i0, p0, h3, h4⟩ := HP0.out; exact ⟨h1.next HB7.out, h2, i0, p0, h3, by omega⟩), (fun h => by rw [HTK.out] at h; cases h)⟩, below_mono HR.out.2 HB7.out (Nat.le_refl _)⟩⟩
            case measure => simp [intOf]; omega
    · obtain rfl : j = m := by omega
      have HTL : Hid (l.take j = l) := Lib.hid (List.take_of_length_le (by rw [HM.out]; exact Nat.le_refl _))
      rw [HTL.out] at HR ⊢
      obtain ⟨fv, hfv⟩ : ∃ v, v = fsX 0 l := ⟨_, rfl⟩
      rw [← hfv] at HR HDS ⊢
      have HFV := Lib.hid hfv
      clear hfv
      by_cases hk0 : kx = 0
      · have HRS : Hid (RES = some x.dst) := Lib.hid (by rw [HR0.out, if_pos hk0])
        have CQ0 : Hid (∀ V, Below w.heap.size w V → Calls Try.prog 18 #[.agg #[.int .i64 xo, .int .i64 xn, .string xs, .slice bo j k]] V fun e w' => e = .returned (.int .i64 0) ∧ Below V.heap.size V w') := by rw [hk0] at CQE; exact CQE
        clear CQE hk0
        cases fv with
        | none =>
          have hfin : ∀ V, Below w.heap.size w V → ExP path RES w (.returned (.tuple #[.slice pa pn pc, .bool true])) V := fun V hV => ⟨⟨pa, pn, pc, by rw [HRS.out]; rfl, fun p hp => by
            rw [HRS.out, HDS.out] at hp
            cases hp
            show StI pa pn pc (path ++ []) V
            rw [List.append_nil]
            exact HP.out.next hV, fun h => by rw [HRS.out] at h; cases h⟩, hV⟩
          go_wp2_with (first | (go_at_call 18; (with_reducible refine (CQ0.out _ HWW.out).mono ?_); rintro e w4 ⟨rfl, hb⟩; have HB4 := Lib.hid hb; clear hb) | (go_at_call 55; (with_reducible refine (better_no _ _ _ _ _ _ _ _).mono ?_); rintro e w7 ⟨rfl, hb⟩; have HB7 := Lib.hid (below_mono HB4.out hb (Nat.le_refl _)); clear hb))
          go_ret2
          exact hfin _ (below_mono HWW.out HB7.out (Nat.le_refl _))
        | some p =>
          have hfin : ∀ V, Below wr.heap.size wr V → ExP path RES w (.returned (.tuple #[.slice ba bn bc, .bool true])) V := fun V hV => ⟨⟨ba, bn, bc, by rw [HRS.out]; rfl, fun q hq => by
            rw [HRS.out, HDS.out] at hq
            cases hq
            exact (HR.out.1.1 p rfl).1.next hV, fun h => by rw [HRS.out] at h; cases h⟩, below_mono HWW.out hV (Nat.le_refl _)⟩
          go_wp2_with (go_at_call 18; (with_reducible refine (CQ0.out _ HWW.out).mono ?_); rintro e w4 ⟨rfl, hb⟩; have HB4 := Lib.hid hb; clear hb)
          go_ret2
          exact hfin _ HB4.out
      · have HRS : Hid (RES = none) := Lib.hid (by rw [HR0.out, if_neg hk0])
        have hkb : ((kx : Int) == 0) = false := by simp; omega
        obtain rfl : fv = none := by rw [HFV.out]; exact fs_none (HKK.out hk0)
        have hfin : ∀ V, Below w.heap.size w V → ExP path RES w (.returned (.tuple #[.slice ba bn bc, .bool false])) V := fun V hV => ⟨⟨ba, bn, bc, by rw [HRS.out]; rfl, (fun q hq => by rw [HRS.out] at hq; cases hq), fun _ => HR.out.1.2 rfl⟩, hV⟩
        obtain ⟨K, hK⟩ : ∃ K : Int, K = (kx : Nat) := ⟨_, rfl⟩
        rw [← hK] at CQE hkb
        clear hK hk0
        go_wp2_with (go_at_call 18; (with_reducible refine (CQE.out _ HWW.out).mono ?_); rintro e w4 ⟨rfl, hb⟩; have HB4 := Lib.hid hb; clear hb)
        go_ret2
        exact hfin _ (below_mono HWW.out HB4.out (Nat.le_refl _))
end Go.Proofs.Ytidldlhhmophjaa
