/- Layer 21: the first fault of a right term, by the program. Conditions: those written at each theorem. -/
import Derived.Test.YtidldlhhmophjaaFtA
namespace Go.Proofs.Ytidldlhhmophjaa
open Go.RowKit Go.PlainAid Go.Sort
set_option linter.unusedVariables false
set_option linter.unusedSimpArgs false
def ndK (o : Int) : Int := if o = 6 then 1 else 2
set_option maxRecDepth 100000 in
theorem needed_any (o : Int) (s : ByteArray) (a2 a3 : Option Addr) (n2 k2 n3 k3 : Nat) (w : World) : Calls Try.prog 74 #[.agg #[.int .i64 o, .string s, .slice a2 n2 k2, .slice a3 n3 k3]] w fun e w' => e = .returned (.int .i64 (ndK o)) ∧ Below w.heap.size w w' := by
  have GA := Lib.hid (term_box (.int .i64 o) (.string s) (.slice a2 n2 k2) (.slice a3 n3 k3) w)
  by_cases h : o = 6
  · subst h
    go_enter Try.func74, Try.ntmps74
    go_upto_region 1 with fail
    obtain ⟨W, hW⟩ : ∃ X, w.alloc (.cells #[.int .i64 6, .string s, .slice a2 n2 k2, .slice a3 n3 k3] 42) = X := ⟨_, rfl⟩
    obtain ⟨g1, b1, _⟩ := GA.out W hW
    rw [hW]
    obtain ⟨c0, c1, c2, c3⟩ := quad b1
    go_wp2_with fail
    exact bodyPost_ret (v := .int .i64 1) (by simp [results, Try.results74, go_sem]) rfl ⟨rfl, g1⟩
  · have he : (o == 6) = false := by simp [h]
    have hn : ndK o = 2 := by unfold ndK; rw [if_neg h]
    go_enter Try.func74, Try.ntmps74
    go_upto_region 1 with fail
    obtain ⟨W, hW⟩ : ∃ X, w.alloc (.cells #[.int .i64 o, .string s, .slice a2 n2 k2, .slice a3 n3 k3] 42) = X := ⟨_, rfl⟩
    obtain ⟨g1, b1, _⟩ := GA.out W hW
    rw [hW]
    obtain ⟨c0, c1, c2, c3⟩ := quad b1
    go_wp2_with fail
    exact bodyPost_ret (v := .int .i64 2) (by simp [results, Try.results74, go_sem]) rfl ⟨by rw [hn], g1⟩
/-- The first fault among expressions, among terms, of a term: its path. -/
def fltX (nd : Int) : Int → List Xp → Option (List Int)
  | _, [] => none
  | i, y :: t => if (y.knd : Int) = nd then fltX nd (i + 1) t else some (i :: (if y.knd = 0 then y.dst else []))
def Tr.flt : Tr → Option (List Int)
  | .mk o _ es ts => match fltX (ndK o) 0 es with
    | some l => some l
    | none => flts es.length ts
where flts : Int → List Tr → Option (List Int)
  | _, [] => none
  | i, y :: t => match y.flt with
    | some l => some (i :: l)
    | none => flts (i + 1) t
theorem Tr.flt_eq (x : Tr) : x.flt = match fltX (ndK x.op) 0 x.exprs with | some l => some l | none => Tr.flt.flts x.exprs.length x.terms := by cases x; rfl
theorem fltX_drop {l : List Xp} {j : Nat} {y : Xp} (h : l[j]? = some y) (nd i : Int) : fltX nd i (l.drop j) = if (y.knd : Int) = nd then fltX nd (i + 1) (l.drop (j + 1)) else some (i :: (if y.knd = 0 then y.dst else [])) := by
  obtain ⟨hl, rfl⟩ := List.getElem?_eq_some_iff.1 h
  rw [List.drop_eq_getElem_cons hl]
  rfl
theorem flts_drop {l : List Tr} {j : Nat} {y : Tr} (h : l[j]? = some y) (i : Int) : Tr.flt.flts i (l.drop j) = match y.flt with | some p => some (i :: p) | none => Tr.flt.flts (i + 1) (l.drop (j + 1)) := by
  obtain ⟨hl, rfl⟩ := List.getElem?_eq_some_iff.1 h
  rw [List.drop_eq_getElem_cons hl]
  rfl
/-- A path is there still behind a call that was given a longer one. -/
theorem PI.back {w5 w6 : World} {B : Nat} {pa : Option Addr} {pn pc g' cap : Nat} {path : List Int} {f : Int} (h5 : PI w5 B pa pn pc path) (h6 : PI w6 B (some ⟨g', 0, none⟩) (pn + 1) cap (path ++ [f])) (k : w5.grownBy w6 (some g')) (hor : (Value.slice pa pn pc).ownBlock = some g' ∧ cap = pc ∨ ∀ g, (Value.slice pa pn pc).ownBlock = some g → g ≠ g') : PI w6 B pa pn pc path := by
  rcases hor with ⟨ho, rfl⟩ | hne
  · rcases h5.2 with ⟨hv, _⟩ | ⟨g, cp, cur, hv, hb, hg, hc, hm, hs, ht⟩
    · injection hv with e1 e2 e3
      subst e1
      cases ho
    · injection hv with e1 e2 e3
      subst e1 e3
      injection ho with ho
      subst ho
      rcases h6.2 with ⟨hv2, _⟩ | ⟨q2, cap2, cur2, hv2, hb2, hg2, hc2, hm2, hs2, ht2⟩
      · cases hv2
      · injection hv2 with e1 e2 e3
        injection e1 with e1
        injection e1 with e1
        subst e1 e3
        refine ⟨h5.1, .inr ⟨g, cap, cur2, rfl, hb2, hg2, by omega, hm2, hs2, ?_⟩⟩
        have hln := h5.1
        have : (cur2.toList.take ((pn + 1) * 1)).take (pn * 1) = ivs path := by
          rw [ht2, ivs_snoc, List.take_left' (by simpa using hln)]
        rw [List.take_take, show min (pn * 1) ((pn + 1) * 1) = pn * 1 from by omega] at this
        exact this
  · exact h5.keep k fun g hg e => hne g hg (Option.some.inj e)
theorem wpList_appP {w : World} {ops : Array Oper} {rest : List Oper} {o : Oper} {a : Act} {Q : Exit → Act → World → Prop} (hgd : o.guard = none) (s x : Operand)
    (ho : o.op = .call { callee := .builtin .append, args := #[s, x], argTypes := #[26, 26] })
    (B : Nat) (va : Option Addr) (n c : Nat) (l : List Int) (f : Int) (hs : a.eval s = .slice va n c) (hown : PI w B va n c l) (g : Nat) (hx : a.eval x = .slice (some ⟨g, 0, none⟩) 1 1)
    (hc : w.cell? ⟨g, 0, none⟩ = some (.int .i64 f)) (hn : n ≤ 10000) (hB : B ≤ w.heap.size)
    (h : ∀ g' cap w', PI w' B (some ⟨g', 0, none⟩) (n + 1) cap (l ++ [f]) → PI w' B va n c l → w.grownBy w' (Value.slice va n c).ownBlock → ((Value.slice va n c).ownBlock = some g' ∧ cap = c ∨ g' = w.heap.size) → wpList Try.prog ops Q rest (a.put o.dst (.slice (some ⟨g', 0, none⟩) (n + 1) cap)) w') :
    wpList Try.prog ops Q (o :: rest) a w := by
  refine wpList_plain hgd fun K hK => ?_
  obtain ⟨g', cap, w', hr, h2, h3, h4, h5⟩ := run_app_path o.type hown f g hc hn hB
  unfold Oper.wp execOp
  simp only [ho, resolve, invoke, builtin, Sem.run_bind, Sem.run_pure, Result.andThen_ok, List.map_toArray, List.map_cons, List.map_nil, hs, hx, hr]
  exact hK _ _ (h g' cap w' h2 h3 h4 h5)
/-- What fault gives. -/
def FtP (B : Nat) (pa : Option Addr) (pn pc : Nat) (path : List Int) (res : Option (List Int)) (w : World) (e : Ending) (w' : World) : Prop :=
  ((∃ l qa qn qc, res = some l ∧ e = .returned (.tuple #[.slice qa qn qc, .bool true]) ∧ PI w' B qa qn qc (path ++ l)) ∨ (res = none ∧ e = .returned (.tuple #[.slice none 0 0, .bool false]) ∧ PI w' B pa pn pc path)) ∧ w.grownBy w' (Value.slice pa pn pc).ownBlock
set_option maxRecDepth 100000 in
set_option maxHeartbeats 16000000 in
theorem fault_any {S : Nat → Prop} {B : Nat} (hS : ∀ b, S b → b < B) (x : Tr) : ∀ (eo : Option Addr) (ek : Nat) (tb : Option Addr) (tk : Nat) (w : World) (pa : Option Addr) (pn pc : Nat) (path : List Int), B ≤ w.heap.size → x.blt = true → TrOk S w x eo ek tb tk → x.cnt < 1000 → PI w B pa pn pc path → pn + x.dep ≤ 9000 →
    Calls Try.prog 51 #[trV x eo ek tb tk, .slice pa pn pc] w (FtP B pa pn pc path x.flt w) := by
  induction x using Tr.ind with
  | h x IH =>
  intro eo ek tb tk w pa pn pc path hB hb ht hcn hp hn
  have hbe := x.blt_eq
  rw [hb, tblts_all] at hbe
  have hbe2 := hbe.symm
  simp only [Bool.and_eq_true, List.all_eq_true] at hbe2
  have hfl := x.flt_eq
  have hde := x.dep_eq
  have hce := x.cnt_eq
  obtain ⟨l, hl⟩ : ∃ l, l = x.exprs := ⟨_, rfl⟩
  obtain ⟨l2, hl2⟩ : ∃ l, l = x.terms := ⟨_, rfl⟩
  have hec := ht.ec
  have htc := ht.tc
  have hex := ht.ex
  have hte := ht.te
  rw [← hl] at hbe2 hfl hde hce hec hex
  rw [← hl2] at IH hbe2 hfl hde hce htc hte
  have HX : Hid (∀ W, Below w.heap.size w W → ExL S W l eo) := Lib.hid fun W hW => hex.stay (fun _ h => h) fun b hb => hW.block b (by have := hS b hb; omega)
  have HY : Hid (∀ W : World, (∀ b, S b → W.heap[b]? = w.heap[b]?) → TrL S W l2 tb) := Lib.hid fun W hW => hte.stay (fun _ h => h) hW
  have CK : Hid (∀ y ∈ l, ∀ (co : Option Addr) (ck : Nat), y.args.length ≤ ck → ∀ W, Below w.heap.size w W → ExL S W y.args co → Calls Try.prog 48 #[exV y co ck] W fun e w' => e = .returned (.int .i64 (y.knd : Nat)) ∧ Below W.heap.size W w') := Lib.hid fun y hy co ck h1 W hW h2 => kind_any (S := S) (B := B) hS y co ck W (by have := hW.size; omega) (hbe2.1.2 y hy) h1 h2
  have HI := Lib.hid IH
  have HBL := Lib.hid (And.intro hbe2.1.2 hbe2.2)
  have HA := Lib.hid (And.intro hB (And.intro hn (And.intro hde (And.intro hce hcn))))
  have HP := Lib.hid hp
  obtain ⟨m, hm⟩ : ∃ m, m = l.length := ⟨_, rfl⟩
  obtain ⟨m2, hm2⟩ : ∃ m, m = l2.length := ⟨_, rfl⟩
  have HM := Lib.hid hm
  have HM2 := Lib.hid hm2
  have hm3 : m < 1000 ∧ m2 < 1000 := by
    have := len_cnts l
    have := len_tcnts l2
    omega
  obtain ⟨hm3, hm4⟩ := hm3
  obtain ⟨xo, hxo⟩ : ∃ v, v = x.op := ⟨_, rfl⟩
  obtain ⟨xs, hxs⟩ : ∃ v, v = x.nm := ⟨_, rfl⟩
  rw [show trV x eo ek tb tk = .agg #[.int .i64 xo, .string xs, .slice eo m ek, .slice tb m2 tk] from by rw [hm, hm2, hl, hl2, hxo, hxs]]
  rw [← hxo, ← hm] at hfl
  obtain ⟨RES, hRES⟩ : ∃ v, v = x.flt := ⟨_, rfl⟩
  rw [← hRES] at hfl ⊢
  have HR := Lib.hid hfl
  have CN : Hid (∀ W, Calls Try.prog 74 #[.agg #[.int .i64 xo, .string xs, .slice eo m ek, .slice tb m2 tk]] W fun e w' => e = .returned (.int .i64 (ndK xo)) ∧ Below W.heap.size W w') := Lib.hid fun W => needed_any xo xs eo tb m ek m2 tk W
  obtain ⟨nd, hnd⟩ : ∃ v, v = ndK xo := ⟨_, rfl⟩
  rw [← hnd] at CN HR
  have hnd2 : nd = 1 ∨ nd = 2 := by rw [hnd]; unfold ndK; split <;> simp
  have HND := Lib.hid hnd2
  have GA := Lib.hid (term_box (.int .i64 xo) (.string xs) (.slice eo m ek) (.slice tb m2 tk) w)
  clear IH hB hb ht hcn hp hn hbe hbe2 hec htc hex hte hl hl2 hm hm2 hxo hxs hRES hde hce hfl hnd hnd2
  go_enter Try.func51, Try.ntmps51
  go_upto_region 1 with fail
  obtain ⟨z, hz⟩ : ∃ z, z = w.heap.size := ⟨_, rfl⟩
  obtain ⟨W, hW⟩ : ∃ X, w.alloc (.cells #[.int .i64 xo, .string xs, .slice eo m ek, .slice tb m2 tk] 42) = X := ⟨_, rfl⟩
  obtain ⟨g1, b1, _⟩ := GA.out W hW
  rw [hW, ← hz]
  rw [← hz] at b1
  have HG := Lib.hid g1
  have HB1 := Lib.hid b1
  have HZ := Lib.hid hz
  obtain ⟨c0, c1, c2, c3⟩ := quad b1
  clear hW g1 b1 GA hz
  go_upto_region 2 with fail
  clear c0 c1 c2 c3
  go_loopw [15] (fun v wr => ∃ j : Nat, j ≤ m ∧ v = .int .i64 j ∧ Hid (RES = (match fltX nd (j : Int) (l.drop j) with | some p => some p | none => Tr.flt.flts m l2) ∧ Below W.heap.size W wr)) (fun v _ => m - (intOf v).toNat)
  case atStart => exact ⟨0, by omega, rfl, Lib.hid ⟨HR.out, Below.refl _ _⟩⟩
  case round =>
    obtain ⟨j, hj, rfl, HRW⟩ := hrel
    have HWW := Lib.hid (below_mono HG.out HRW.out.2 (Nat.le_refl _))
    by_cases hlt : j < m
    · obtain ⟨y, hy⟩ : ∃ y, l[j]? = some y := ⟨_, List.getElem?_eq_getElem (by rw [← HM.out]; exact hlt)⟩
      have hmem := List.mem_of_getElem? hy
      have hdi := (cnts_in hy).2
      obtain ⟨a, co, ck, rfl, hsa, hck, ⟨y0, y1, y2, y3⟩, hyl⟩ := (HX.out wr HWW.out).get hy
      have HD : Hid (fltX nd (j : Int) (l.drop j) = if (y.knd : Int) = nd then fltX nd ((j : Int) + 1) (l.drop (j + 1)) else some ((j : Int) :: (if y.knd = 0 then y.dst else []))) := Lib.hid (fltX_drop hy nd j)
      have CKy : Hid (∀ V, Below wr.heap.size wr V → Calls Try.prog 48 #[exV y co ck] V fun e w' => e = .returned (.int .i64 (y.knd : Nat)) ∧ Below V.heap.size V w') := Lib.hid fun V hV => CK.out y hmem co ck hck V (below_mono HWW.out hV (Nat.le_refl _)) (hyl.stay (fun _ h => h) fun b hb => hV.block b (by have := hS b hb; have := HA.out.1; have := HWW.out.size; omega))
      have CD : Hid (∀ V va n c p2, w.heap.size ≤ V.heap.size → (∀ b, S b → V.heap[b]? = wr.heap[b]?) → PI V B va n c p2 → n = pn + 1 → Calls Try.prog 75 #[exV y co ck, .slice va n c] V (DpP B (Value.slice va n c).ownBlock (p2 ++ y.dst) V)) := Lib.hid fun V va n c p2 hs hV hp hn => deepest_any (S := S) (B := B) hS y co ck V va n c p2 (by have := HA.out.1; omega) (HBL.out.1 y hmem) hck (hyl.stay (fun _ h => h) hV) hp (by
        have h1 := HA.out.2.1
        have h2 := HA.out.2.2.1
        omega)
      obtain ⟨kn, hkn⟩ : ∃ v, v = y.knd := ⟨_, rfl⟩
      obtain ⟨yd, hyd⟩ : ∃ v, v = y.dst := ⟨_, rfl⟩
      rw [← hkn, ← hyd] at HD
      rw [← hkn] at CKy
      rw [← hyd] at CD
      obtain ⟨cm, hcm⟩ : ∃ c, c = y.args.length := ⟨_, rfl⟩
      obtain ⟨yo, hyo⟩ : ∃ v, v = y.op := ⟨_, rfl⟩
      obtain ⟨yn, hyn⟩ : ∃ v, v = y.n := ⟨_, rfl⟩
      obtain ⟨ys, hys⟩ : ∃ v, v = y.nm := ⟨_, rfl⟩
      have hye : exV y co ck = .agg #[.int .i64 yo, .int .i64 yn, .string ys, .slice co cm ck] := by rw [hcm, hyo, hyn, hys]
      rw [hye] at CKy CD
      rw [← hcm] at y3
      rw [← hyo] at y0
      rw [← hyn] at y1
      rw [← hys] at y2
      obtain ⟨⟨r0, r1, r2, r3⟩, p0, p1, p2, p3⟩ := new_zero wr (.int .i64 0) (.int .i64 0) (.string ⟨#[]⟩) (.slice none 0 0) 34
      have j0 : (0 : Int) ≤ (j : Int) := by omega
      have j1 : (j : Int) < (m : Int) := by omega
      clear hcm hyo hyn hys hsa hck hyl hy hmem hkn hyd hye hdi
      go_upto_region 4 with fail
      clear r0 r1 r2 r3 p0 p1 p2 p3 y0 y1 y2 y3
      obtain ⟨W3, hW3⟩ : ∃ X, wr.alloc (.cells #[.int .i64 yo, .int .i64 yn, .string ys, .slice co cm ck] 34) = X := ⟨_, rfl⟩
      obtain ⟨g3, b3, s3⟩ := cells_made _ _ _ W3 hW3
      obtain ⟨u, hu⟩ : ∃ u, u = wr.heap.size := ⟨_, rfl⟩
      rw [hW3, ← hu]
      rw [← hu] at b3
      have HG3 : Hid (Below wr.heap.size wr W3) := Lib.hid g3
      have HB3 := Lib.hid b3
      have HUQ := Lib.hid hu
      obtain ⟨y0, y1, y2, y3⟩ := quad b3
      clear g3 b3 s3 hW3 hu
      have HZ3 : Hid (∀ V, Below W3.heap.size W3 V → V.heap[z]? = some (.cells #[.int .i64 xo, .string xs, .slice (some a) m ek, .slice tb m2 tk] 42 (0, 0))) := Lib.hid fun V hV => ((below_mono (below_mono HRW.out.2 HG3.out (Nat.le_refl _)) hV (Nat.le_refl _)).block z (lt_of_heap HB1.out)).trans HB1.out
      obtain ⟨K, hK⟩ : ∃ K : Int, K = (kn : Nat) := ⟨_, rfl⟩
      have HKN := Lib.hid hK
      rw [← hK] at CKy HD
      clear hK
      by_cases hkn : K = nd
      · subst hkn
        have HRES : Hid (RES = (match fltX K ((j : Int) + 1) (l.drop (j + 1)) with | some p => some p | none => Tr.flt.flts m l2)) := Lib.hid (by rw [HRW.out.1, HD.out, if_pos rfl])
        have hKK : (K == K) = true := by simp
        go_wp2_with (first | (go_at_call 48; (with_reducible refine (CKy.out _ HG3.out).mono ?_); rintro e w4 ⟨rfl, hb⟩; have HB4 := Lib.hid hb; clear hb y0 y1 y2 y3; obtain ⟨c0, c1, c2, c3⟩ := quad (HZ3.out w4 HB4.out)) | (go_at_call 74; (with_reducible refine (CN.out _).mono ?_); rintro e w5 ⟨rfl, hb⟩; have HB5 := Lib.hid hb; clear hb c0 c1 c2 c3))
        go_roundw
        case rel => exact ⟨j + 1, by omega, by go_num, Lib.hid ⟨by rw [HRES.out]; push_cast; rfl, below_mono (below_mono (below_mono HRW.out.2 HG3.out (Nat.le_refl _)) HB4.out (Nat.le_refl _)) HB5.out (Nat.le_refl _)⟩⟩
        case measure => simp [intOf]; omega
      · by_cases hk0 : K = 0
        · subst hk0
          have hk1 : ((0 : Int) == nd) = false := by simp; exact hkn
          have HRES : Hid (RES = some ((j : Int) :: yd)) := Lib.hid (by rw [HRW.out.1, HD.out, if_neg hkn, if_pos (by have := HKN.out; omega)])
          clear hkn
          go_upto_region 8 with (first | (go_at_call 48; (with_reducible refine (CKy.out _ HG3.out).mono ?_); rintro e w4' ⟨rfl, hb⟩; have HB4' := Lib.hid hb; clear hb y0 y1 y2 y3; obtain ⟨c0, c1, c2, c3⟩ := quad (HZ3.out w4' HB4'.out)) | (go_at_call 74; (with_reducible refine (CN.out _).mono ?_); rintro e w4 ⟨rfl, hb⟩; have HB4 := Lib.hid (below_mono HB4'.out hb (Nat.le_refl _)); clear hb c0 c1 c2 c3))
          have HW4 : Hid (Below w.heap.size w w4 ∧ Below wr.heap.size wr w4) := Lib.hid ⟨below_mono (below_mono HWW.out HG3.out (Nat.le_refl _)) HB4.out (Nat.le_refl _), below_mono HG3.out HB4.out (Nat.le_refl _)⟩
          have HU4 : Hid (u < w4.heap.size ∧ w.heap.size ≤ u ∧ (w4.alloc (.cells #[.int .i64 j] 3)).drew.heap.size = w4.heap.size + 1) := Lib.hid ⟨Nat.lt_of_lt_of_le (lt_of_heap HB3.out) HB4.out.size, by rw [HUQ.out]; exact HWW.out.size, by show (w4.alloc _).heap.size = _; simp⟩
          have HBX : Hid (∀ V : World, V.heap[u]? = w4.heap[u]? → V.cell? ⟨u, 0, none⟩ = some (.int .i64 yo) ∧ V.cell? ⟨u, 1, none⟩ = some (.int .i64 yn) ∧ V.cell? ⟨u, 2, none⟩ = some (.string ys) ∧ V.cell? ⟨u, 3, none⟩ = some (.slice co cm ck)) := Lib.hid fun V hV => quad (hV.trans ((HB4.out.block u (lt_of_heap HB3.out)).trans HB3.out))
          have HPA : Hid (PI (w4.alloc (.cells #[.int .i64 j] 3)).drew B pa pn pc path) := Lib.hid (HP.out.next (HW4.out.1.alloc HW4.out.1.size _).drew)
          have HPN : Hid (pn ≤ 10000 ∧ B ≤ (w4.alloc (.cells #[.int .i64 j] 3)).drew.heap.size ∧ w.heap.size ≤ (w4.alloc (.cells #[.int .i64 j] 3)).drew.heap.size) := Lib.hid ⟨by have := HA.out.2.1; omega, by have := HA.out.1; have := ((HW4.out.1.alloc HW4.out.1.size (.cells #[.int .i64 j] 3)).drew).size; omega, ((HW4.out.1.alloc HW4.out.1.size _).drew).size⟩
          have HTR : Hid (∀ b, S b → (w4.alloc (.cells #[.int .i64 j] 3)).drew.heap[b]? = wr.heap[b]? ∧ b < w.heap.size) := Lib.hid fun b hb => by
            have h1 := hS b hb
            have h2 := HA.out.1
            have h3 := HWW.out.size
            exact ⟨(HW4.out.2.alloc HW4.out.2.size (.cells #[.int .i64 j] 3)).block b (by omega), by omega⟩
          go_region_held3 (fun V => V.cell? ⟨u, 0, none⟩ = some (.int .i64 yo) ∧ V.cell? ⟨u, 1, none⟩ = some (.int .i64 yn) ∧ V.cell? ⟨u, 2, none⟩ = some (.string ys) ∧ V.cell? ⟨u, 3, none⟩ = some (.slice co cm ck))
            (first | exact HBX.out _ HU6.out | exact HBX.out _ HU5.out | exact HBX.out _ (Below.heap_alloc _ _ _ HU4.out.1) | exact HBX.out _ rfl)
            (first
              | (refine step_appP rfl _ _ rfl B pa pn pc path (j : Int) rfl HPA.out w4.heap.size rfl (cell_blk (show (w4.alloc (.cells #[.int .i64 j] 3)).drew.heap[w4.heap.size]? = _ from heap_alloc_new w4 _) 0) HPN.out.1 HPN.out.2.1 ?_; intro g' cap' w5 hq1 hq2 hq3 hq4; have HQ := Lib.hid (And.intro hq1 (And.intro hq2 (And.intro hq3 hq4))); have HU5 : Hid (w5.heap[u]? = w4.heap[u]?) := Lib.hid ((hq3.block u (by have := HU4.out; omega) (by intro e; have := (row_ltN HP.out e.symm).1; have := HU4.out.2.1; omega)).trans (Below.heap_alloc _ _ _ HU4.out.1)); have HT5 : Hid (∀ b, S b → w5.heap[b]? = wr.heap[b]?) := Lib.hid (fun b hb => (hq3.block b (by have := (HTR.out b hb).2; have := HPN.out.2.2; omega) (by intro e; have := (row_ltN HP.out e.symm).2; have := hS b hb; omega)).trans (HTR.out b hb).1); clear hq1 hq2 hq3 hq4)
              | (go_at_call 75; (with_reducible refine (CD.out w5 (some ⟨g', 0, none⟩) (pn + 1) cap' (path ++ [(j : Int)]) (Nat.le_trans HPN.out.2.2 HQ.out.2.2.1.size) HT5.out HQ.out.1 rfl).mono ?_); rintro e w6 ⟨⟨qa, qn, qc, rfl, hq5⟩, hq6⟩; have HQ6 := Lib.hid (And.intro hq5 hq6); have HU6 : Hid (w6.heap[u]? = w4.heap[u]?) := Lib.hid ((hq6.block u (by have := HU4.out; have := HQ.out.2.2.1.size; omega) (by intro e; have e' : u = g' := Option.some.inj e; have := HQ.out.2.2.2; rcases this with h | h; have := (row_ltN HP.out h.1).1; have := HU4.out.2.1; omega; have := HU4.out; omega)).trans HU5.out); clear hq5 hq6))
          all_goals
            have hfin : FtP B pa pn pc path RES w (.returned (.tuple #[.slice qa qn qc, .bool true])) w6 := ⟨.inl ⟨_, qa, qn, qc, HRES.out, rfl, by have := HQ6.out.1; rwa [List.append_assoc] at this⟩, grown_path (grown_more (grown_below (HW4.out.1.alloc HW4.out.1.size _).drew _) HQ.out.2.2.1) HQ6.out.2 (by rcases HQ.out.2.2.2 with h | h; exact .inl h.1; right; rw [h]; exact HPN.out.2.2)⟩
            go_wp2_with fail
            go_ret2
            exact hfin
        · have hk1 : (K == nd) = false := by simp; exact hkn
          have hk2 : (K == 0) = false := by simp; exact hk0
          have HRES : Hid (RES = some [(j : Int)]) := Lib.hid (by rw [HRW.out.1, HD.out, if_neg hkn, if_neg (by have := HKN.out; omega)])
          clear hkn hk0
          go_upto_region 5 with (first | (go_at_call 48; (with_reducible refine (CKy.out _ HG3.out).mono ?_); rintro e w4' ⟨rfl, hb⟩; have HB4' := Lib.hid hb; clear hb y0 y1 y2 y3; obtain ⟨c0, c1, c2, c3⟩ := quad (HZ3.out w4' HB4'.out)) | (go_at_call 74; (with_reducible refine (CN.out _).mono ?_); rintro e w4 ⟨rfl, hb⟩; have HB4 := Lib.hid (below_mono HB4'.out hb (Nat.le_refl _)); clear hb c0 c1 c2 c3))
          have HW4 : Hid (Below w.heap.size w w4) := Lib.hid (below_mono (below_mono HWW.out HG3.out (Nat.le_refl _)) HB4.out (Nat.le_refl _))
          have HPA : Hid (PI (w4.alloc (.cells #[.int .i64 j] 3)) B pa pn pc path) := Lib.hid (HP.out.next (HW4.out.alloc HW4.out.size _))
          have HPN : Hid (pn ≤ 10000 ∧ B ≤ (w4.alloc (.cells #[.int .i64 j] 3)).heap.size) := Lib.hid ⟨by have := HA.out.2.1; omega, by have := HA.out.1; have := (HW4.out.alloc HW4.out.size (.cells #[.int .i64 j] 3)).size; omega⟩
          go_wp2_with (at_builtin; refine wpList_appP rfl _ _ rfl B pa pn pc path (j : Int) rfl HPA.out w4.heap.size rfl (cell_blk (heap_alloc_new w4 _) 0) HPN.out.1 HPN.out.2 ?_; intro g' cap' w5 hq1 hq2 hq3 hq4; have HQ := Lib.hid (And.intro hq1 hq3); clear hq1 hq2 hq3 hq4)
          have hfin : FtP B pa pn pc path RES w (.returned (.tuple #[.slice (some ⟨g', 0, none⟩) (pn + 1) cap', .bool true])) w5 := ⟨.inl ⟨_, _, _, _, HRES.out, rfl, HQ.out.1⟩, grown_more (grown_below (HW4.out.alloc HW4.out.size _) _) HQ.out.2⟩
          go_ret2
          exact hfin
    · obtain rfl : j = m := by omega
      have HRES : Hid (RES = Tr.flt.flts (j : Int) l2) := Lib.hid (by rw [HRW.out.1, List.drop_eq_nil_of_le (by rw [HM.out]; exact Nat.le_refl _)]; rfl)
      obtain ⟨c0, c1, c2, c3⟩ := quad ((HRW.out.2.block z (lt_of_heap HB1.out)).trans HB1.out)
      go_upto_region 11 with fail
      clear c0 c1 c2 c3
      go_loopw [42] (fun v wr2 => ∃ i : Nat, i ≤ m2 ∧ v = .int .i64 i ∧ Hid (RES = Tr.flt.flts ((j : Int) + i) (l2.drop i) ∧ PI wr2 B pa pn pc path ∧ w.grownBy wr2 (Value.slice pa pn pc).ownBlock ∧ wr2.heap[z]? = W.heap[z]?)) (fun v _ => m2 - (intOf v).toNat)
      case atStart => exact ⟨0, by omega, rfl, Lib.hid ⟨by rw [HRES.out]; simp, HP.out.next HWW.out, grown_below HWW.out _, HRW.out.2.block z (lt_of_heap HB1.out)⟩⟩
      case round =>
        obtain ⟨i, hi, rfl, HR2⟩ := hrel
        have HTS : Hid (∀ b, S b → wr.heap[b]? = w.heap[b]? ∧ b < w.heap.size) := Lib.hid fun b hb => by
          have h1 := hS b hb
          have h2 := HA.out.1
          exact ⟨HR2.out.2.2.1.block b (by omega) (by intro e; have := (row_ltN HP.out e.symm).2; omega), by omega⟩
        by_cases hlt2 : i < m2
        · obtain ⟨y, hy⟩ : ∃ y, l2[i]? = some y := ⟨_, List.getElem?_eq_getElem (by rw [← HM2.out]; exact hlt2)⟩
          have hmem := List.mem_of_getElem? hy
          have hci := tcnts_in hy
          obtain ⟨a, eo2, ek2, to2, tk2, rfl, hsa, hek, htk, ⟨y0, y1, y2, y3⟩, hye, hyt⟩ := (HY.out wr (fun b hb => (HTS.out b hb).1)).get hy
          have HD : Hid (Tr.flt.flts ((j : Int) + i) (l2.drop i) = match y.flt with | some p => some (((j : Int) + i) :: p) | none => Tr.flt.flts ((j : Int) + i + 1) (l2.drop (i + 1))) := Lib.hid (flts_drop hy _)
          have CF : Hid (∀ V va n c p2, w.heap.size ≤ V.heap.size → (∀ b, S b → V.heap[b]? = wr.heap[b]?) → PI V B va n c p2 → n = pn + 1 → Calls Try.prog 51 #[trV y eo2 ek2 to2 tk2, .slice va n c] V (FtP B va n c p2 y.flt V)) := Lib.hid fun V va n c p2 hs hV hp hn => HI.out y hmem eo2 ek2 to2 tk2 V va n c p2 (by have := HA.out.1; omega) (HBL.out.2 y hmem) ⟨hek, htk, hye.stay (fun _ h => h) hV, hyt.stay (fun _ h => h) hV⟩ (by have h4 := HA.out.2.2.2.1; have h5 := HA.out.2.2.2.2; omega) hp (by
            have h1 := HA.out.2.1
            have h2 := HA.out.2.2.1
            omega)
          obtain ⟨fy, hfy⟩ : ∃ v, v = y.flt := ⟨_, rfl⟩
          rw [← hfy] at HD CF
          obtain ⟨em, hem⟩ : ∃ c, c = y.exprs.length := ⟨_, rfl⟩
          obtain ⟨tm, htm⟩ : ∃ c, c = y.terms.length := ⟨_, rfl⟩
          obtain ⟨yo, hyo⟩ : ∃ v, v = y.op := ⟨_, rfl⟩
          obtain ⟨ys, hys⟩ : ∃ v, v = y.nm := ⟨_, rfl⟩
          rw [show trV y eo2 ek2 to2 tk2 = .agg #[.int .i64 yo, .string ys, .slice eo2 em ek2, .slice to2 tm tk2] from by rw [hem, htm, hyo, hys]] at CF
          rw [← hem] at y2
          rw [← htm] at y3
          rw [← hyo] at y0
          rw [← hys] at y1
          obtain ⟨⟨r0, r1, r2, r3⟩, p0, p1, p2, p3⟩ := new_zero wr (.int .i64 0) (.string ⟨#[]⟩) (.slice none 0 0) (.slice none 0 0) 42
          have j0 : (0 : Int) ≤ (i : Int) := by omega
          have j1 : (i : Int) < (m2 : Int) := by omega
          clear hfy hem htm hyo hys hsa hek htk hye hyt hy hmem hci
          go_upto_region 13 with fail
          clear r0 r1 r2 r3 p0 p1 p2 p3 y0 y1 y2 y3
          obtain ⟨W3, hW3⟩ : ∃ X, wr.alloc (.cells #[.int .i64 yo, .string ys, .slice eo2 em ek2, .slice to2 tm tk2] 42) = X := ⟨_, rfl⟩
          obtain ⟨g3, b3, s3⟩ := cells_made _ _ _ W3 hW3
          obtain ⟨u, hu⟩ : ∃ u, u = wr.heap.size := ⟨_, rfl⟩
          rw [hW3, ← hu]
          rw [← hu] at b3 s3
          obtain ⟨P, hP⟩ : ∃ P : Int, P = (j : Int) + (i : Int) := ⟨_, rfl⟩
          have hsP : IntKind.i64.wrap ((j : Int) + (i : Int)) = P := by rw [hP]; exact IntWalk.i64_in _ (by omega)
          rw [← hP] at HD HR2
          have HPQ := Lib.hid hP
          have HGW : Hid (w.grownBy (W3.alloc (.cells #[.int .i64 P] 3)).drew (Value.slice pa pn pc).ownBlock ∧ Below wr.heap.size wr (W3.alloc (.cells #[.int .i64 P] 3)).drew) := Lib.hid (by
            have hb2 : Below wr.heap.size wr (W3.alloc (.cells #[.int .i64 P] 3)).drew := (g3.alloc g3.size _).drew
            exact ⟨grown_more HR2.out.2.2.1 (grown_below hb2 _), hb2⟩)
          have HU4 : Hid (u < W3.heap.size ∧ w.heap.size ≤ u ∧ (W3.alloc (.cells #[.int .i64 P] 3)).drew.heap.size = W3.heap.size + 1) := Lib.hid ⟨by omega, by rw [hu]; exact HR2.out.2.2.1.size, by show (W3.alloc _).heap.size = _; simp⟩
          have HZW : Hid (W3.heap[z]? = some (.cells #[.int .i64 xo, .string xs, .slice eo j ek, .slice (some a) m2 tk] 42 (0, 0)) ∧ z < wr.heap.size ∧ w.heap.size ≤ z) := Lib.hid (by
            have h1 := HR2.out.2.2.2.trans HB1.out
            exact ⟨(g3.block z (lt_of_heap h1)).trans h1, lt_of_heap h1, by have := HZ.out; omega⟩)
          have HBX : Hid (∀ V : World, V.heap[u]? = W3.heap[u]? ∧ V.heap[z]? = W3.heap[z]? → (V.cell? ⟨u, 0, none⟩ = some (.int .i64 yo) ∧ V.cell? ⟨u, 1, none⟩ = some (.string ys) ∧ V.cell? ⟨u, 2, none⟩ = some (.slice eo2 em ek2) ∧ V.cell? ⟨u, 3, none⟩ = some (.slice to2 tm tk2)) ∧ V.cell? ⟨z, 2, none⟩ = some (.slice eo j ek)) := Lib.hid fun V hV => ⟨quad (hV.1.trans b3), cell_blk (hV.2.trans HZW.out.1) 2⟩
          have HPA : Hid (PI (W3.alloc (.cells #[.int .i64 P] 3)).drew B pa pn pc path) := Lib.hid (HR2.out.2.1.next HGW.out.2)
          have HPN : Hid (pn ≤ 10000 ∧ B ≤ (W3.alloc (.cells #[.int .i64 P] 3)).drew.heap.size ∧ w.heap.size ≤ (W3.alloc (.cells #[.int .i64 P] 3)).drew.heap.size) := Lib.hid ⟨by have := HA.out.2.1; omega, by have := HA.out.1; have := HGW.out.1.size; omega, HGW.out.1.size⟩
          have HTR : Hid (∀ b, S b → (W3.alloc (.cells #[.int .i64 P] 3)).drew.heap[b]? = wr.heap[b]?) := Lib.hid fun b hb => HGW.out.2.block b (by have := (HTS.out b hb).2; have := HR2.out.2.2.1.size; omega)
          have HUU : Hid (W3.heap.size = u + 1 ∧ u = wr.heap.size) := Lib.hid ⟨s3, hu⟩
          clear g3 b3 s3 hW3 hu hP
          obtain ⟨_, c2⟩ := HBX.out W3 ⟨rfl, rfl⟩
          cases fy with
          | none =>
            have HRES : Hid (RES = Tr.flt.flts (P + 1) (l2.drop (i + 1))) := Lib.hid (by rw [HR2.out.1, HD.out])
            have CF2 : Hid (∀ V va n c p2, w.heap.size ≤ V.heap.size → (∀ b, S b → V.heap[b]? = wr.heap[b]?) → PI V B va n c p2 → n = pn + 1 → Calls Try.prog 51 #[.agg #[.int .i64 yo, .string ys, .slice eo2 em ek2, .slice to2 tm tk2], .slice va n c] V fun e w' => e = .returned (.tuple #[.slice none 0 0, .bool false]) ∧ PI w' B va n c p2 ∧ V.grownBy w' (Value.slice va n c).ownBlock) := Lib.hid fun V va n c p2 h1 h2 h3 h4 => (CF.out V va n c p2 h1 h2 h3 h4).mono fun e w' ⟨h, hg⟩ => by
              rcases h with ⟨q, _, _, _, hq, _⟩ | ⟨_, he, hpi⟩
              · cases hq
              · exact ⟨he, hpi, hg⟩
            clear CF
            go_region_held3 (fun V => (V.cell? ⟨u, 0, none⟩ = some (.int .i64 yo) ∧ V.cell? ⟨u, 1, none⟩ = some (.string ys) ∧ V.cell? ⟨u, 2, none⟩ = some (.slice eo2 em ek2) ∧ V.cell? ⟨u, 3, none⟩ = some (.slice to2 tm tk2)) ∧ V.cell? ⟨z, 2, none⟩ = some (.slice eo j ek))
              (first | exact HBX.out _ HU6.out | exact HBX.out _ HU5.out | exact HBX.out _ ⟨Below.heap_alloc _ _ _ HU4.out.1, Below.heap_alloc _ _ _ (lt_of_heap HZW.out.1)⟩ | exact HBX.out _ ⟨rfl, rfl⟩)
              (first
                | (refine step_appP rfl _ _ rfl B pa pn pc path P rfl HPA.out W3.heap.size rfl (cell_blk (show (W3.alloc (.cells #[.int .i64 P] 3)).drew.heap[W3.heap.size]? = _ from heap_alloc_new W3 _) 0) HPN.out.1 HPN.out.2.1 ?_; intro g' cap' w5 hq1 hq2 hq3 hq4; have HQ := Lib.hid (And.intro hq1 (And.intro hq2 (And.intro hq3 hq4))); have HU5 : Hid (w5.heap[u]? = W3.heap[u]? ∧ w5.heap[z]? = W3.heap[z]?) := Lib.hid ⟨(hq3.block u (by have := HU4.out; omega) (by intro e; have := (row_ltN HP.out e.symm).1; have := HU4.out.2.1; omega)).trans (Below.heap_alloc _ _ _ HU4.out.1), (hq3.block z (by have := HU4.out; have := HZW.out.2.1; have := HUU.out; omega) (by intro e; have := (row_ltN HP.out e.symm).1; have := HZW.out.2.2; omega)).trans (Below.heap_alloc _ _ _ (lt_of_heap HZW.out.1))⟩; have HT5 : Hid (∀ b, S b → w5.heap[b]? = wr.heap[b]?) := Lib.hid (fun b hb => (hq3.block b (by have := (HTS.out b hb).2; have := HPN.out.2.2; omega) (by intro e; have := (row_ltN HP.out e.symm).2; have := hS b hb; omega)).trans (HTR.out b hb)); clear hq1 hq2 hq3 hq4)
                | (go_at_call 51; (with_reducible refine (CF2.out w5 (some ⟨g', 0, none⟩) (pn + 1) cap' (path ++ [P]) (Nat.le_trans HPN.out.2.2 HQ.out.2.2.1.size) HT5.out HQ.out.1 rfl).mono ?_); rintro e w6 ⟨rfl, hq5, hq6⟩; have HQ6 := Lib.hid (And.intro hq5 hq6); have HU6 : Hid (w6.heap[u]? = W3.heap[u]? ∧ w6.heap[z]? = W3.heap[z]?) := Lib.hid ⟨(hq6.block u (by have := HU4.out; have := HQ.out.2.2.1.size; omega) (by intro e; have e' : u = g' := Option.some.inj e; have := HQ.out.2.2.2; rcases this with h | h; have := (row_ltN HP.out h.1).1; have := HU4.out.2.1; omega; have := HU4.out; omega)).trans HU5.out.1, (hq6.block z (by have := HU4.out; have := HQ.out.2.2.1.size; have := HZW.out.2.1; have := HUU.out; omega) (by intro e; have e' : z = g' := Option.some.inj e; have := HQ.out.2.2.2; rcases this with h | h; have := (row_ltN HP.out h.1).1; have := HZW.out.2.2; omega; have := HU4.out; have := HZW.out.2.1; have := HUU.out; omega)).trans HU5.out.2⟩; clear hq5 hq6))
            all_goals
              go_wp2_with fail
              go_roundw
              case rel => exact ⟨i + 1, by omega, by go_num, Lib.hid ⟨by rw [HRES.out, HPQ.out]; push_cast; rw [Int.add_assoc], HQ.out.2.1.back HQ6.out.1 HQ6.out.2 (by rcases HQ.out.2.2.2 with h | h; exact .inl h; right; intro g hg e; have := (row_ltN HP.out hg).1; have := HU4.out.2.1; have := HUU.out; have := HU4.out; omega), grown_path (grown_more HGW.out.1 HQ.out.2.2.1) HQ6.out.2 (by rcases HQ.out.2.2.2 with h | h; exact .inl h.1; right; rw [h]; exact HPN.out.2.2), (HU6.out.2.trans HZW.out.1).trans HB1.out.symm⟩⟩
              case measure => simp [intOf]; omega
          | some py =>
            have HRES : Hid (RES = some (P :: py)) := Lib.hid (by rw [HR2.out.1, HD.out])
            have CF2 : Hid (∀ V va n c p2, w.heap.size ≤ V.heap.size → (∀ b, S b → V.heap[b]? = wr.heap[b]?) → PI V B va n c p2 → n = pn + 1 → Calls Try.prog 51 #[.agg #[.int .i64 yo, .string ys, .slice eo2 em ek2, .slice to2 tm tk2], .slice va n c] V fun e w' => (∃ qa qn qc, e = .returned (.tuple #[.slice qa qn qc, .bool true]) ∧ PI w' B qa qn qc (p2 ++ py)) ∧ V.grownBy w' (Value.slice va n c).ownBlock) := Lib.hid fun V va n c p2 h1 h2 h3 h4 => (CF.out V va n c p2 h1 h2 h3 h4).mono fun e w' ⟨h, hg⟩ => by
              rcases h with ⟨q, qa, qn, qc, hq, he, hpi⟩ | ⟨hq, _⟩
              · cases hq
                exact ⟨⟨qa, qn, qc, he, hpi⟩, hg⟩
              · cases hq
            clear CF
            go_region_held3 (fun V => (V.cell? ⟨u, 0, none⟩ = some (.int .i64 yo) ∧ V.cell? ⟨u, 1, none⟩ = some (.string ys) ∧ V.cell? ⟨u, 2, none⟩ = some (.slice eo2 em ek2) ∧ V.cell? ⟨u, 3, none⟩ = some (.slice to2 tm tk2)) ∧ V.cell? ⟨z, 2, none⟩ = some (.slice eo j ek))
              (first | exact HBX.out _ HU6.out | exact HBX.out _ HU5.out | exact HBX.out _ ⟨Below.heap_alloc _ _ _ HU4.out.1, Below.heap_alloc _ _ _ (lt_of_heap HZW.out.1)⟩ | exact HBX.out _ ⟨rfl, rfl⟩)
              (first
                | (refine step_appP rfl _ _ rfl B pa pn pc path P rfl HPA.out W3.heap.size rfl (cell_blk (show (W3.alloc (.cells #[.int .i64 P] 3)).drew.heap[W3.heap.size]? = _ from heap_alloc_new W3 _) 0) HPN.out.1 HPN.out.2.1 ?_; intro g' cap' w5 hq1 hq2 hq3 hq4; have HQ := Lib.hid (And.intro hq1 (And.intro hq2 (And.intro hq3 hq4))); have HU5 : Hid (w5.heap[u]? = W3.heap[u]? ∧ w5.heap[z]? = W3.heap[z]?) := Lib.hid ⟨(hq3.block u (by have := HU4.out; omega) (by intro e; have := (row_ltN HP.out e.symm).1; have := HU4.out.2.1; omega)).trans (Below.heap_alloc _ _ _ HU4.out.1), (hq3.block z (by have := HU4.out; have := HZW.out.2.1; have := HUU.out; omega) (by intro e; have := (row_ltN HP.out e.symm).1; have := HZW.out.2.2; omega)).trans (Below.heap_alloc _ _ _ (lt_of_heap HZW.out.1))⟩; have HT5 : Hid (∀ b, S b → w5.heap[b]? = wr.heap[b]?) := Lib.hid (fun b hb => (hq3.block b (by have := (HTS.out b hb).2; have := HPN.out.2.2; omega) (by intro e; have := (row_ltN HP.out e.symm).2; have := hS b hb; omega)).trans (HTR.out b hb)); clear hq1 hq2 hq3 hq4)
                | (go_at_call 51; (with_reducible refine (CF2.out w5 (some ⟨g', 0, none⟩) (pn + 1) cap' (path ++ [P]) (Nat.le_trans HPN.out.2.2 HQ.out.2.2.1.size) HT5.out HQ.out.1 rfl).mono ?_); rintro e w6 ⟨⟨qa, qn, qc, rfl, hq5⟩, hq6⟩; have HQ6 := Lib.hid (And.intro hq5 hq6); have HU6 : Hid (w6.heap[u]? = W3.heap[u]? ∧ w6.heap[z]? = W3.heap[z]?) := Lib.hid ⟨(hq6.block u (by have := HU4.out; have := HQ.out.2.2.1.size; omega) (by intro e; have e' : u = g' := Option.some.inj e; have := HQ.out.2.2.2; rcases this with h | h; have := (row_ltN HP.out h.1).1; have := HU4.out.2.1; omega; have := HU4.out; omega)).trans HU5.out.1, (hq6.block z (by have := HU4.out; have := HQ.out.2.2.1.size; have := HZW.out.2.1; have := HUU.out; omega) (by intro e; have e' : z = g' := Option.some.inj e; have := HQ.out.2.2.2; rcases this with h | h; have := (row_ltN HP.out h.1).1; have := HZW.out.2.2; omega; have := HU4.out; have := HZW.out.2.1; have := HUU.out; omega)).trans HU5.out.2⟩; clear hq5 hq6))
            all_goals
              have hfin : FtP B pa pn pc path RES w (.returned (.tuple #[.slice qa qn qc, .bool true])) w6 := ⟨.inl ⟨_, qa, qn, qc, HRES.out, rfl, by have := HQ6.out.1; rwa [List.append_assoc] at this⟩, grown_path (grown_more HGW.out.1 HQ.out.2.2.1) HQ6.out.2 (by rcases HQ.out.2.2.2 with h | h; exact .inl h.1; right; rw [h]; exact HPN.out.2.2)⟩
              go_wp2_with fail
              go_ret2
              exact hfin
        · obtain rfl : i = m2 := by omega
          have hfin : FtP B pa pn pc path RES w (.returned (.tuple #[.slice none 0 0, .bool false])) wr := ⟨.inr ⟨by rw [HR2.out.1, List.drop_eq_nil_of_le (by rw [HM2.out]; exact Nat.le_refl _)]; rfl, rfl, HR2.out.2.1⟩, HR2.out.2.2.1⟩
          go_wp2_with fail
          go_ret2
          exact hfin
end Go.Proofs.Ytidldlhhmophjaa
