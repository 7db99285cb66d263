/- Trees: the names that are met in a term, in maps. Conditions: those written at each theorem. -/
import Derived.Test.YtepoihokbcoidaaTrC
import Derived.Test.YtepoihokbcoidaaTrG
import Derived.Maps.Ext
import Derived.Maps.OwnOps
namespace Go.Proofs.Ytepoihokbcoidaa
open Go.RowKit Go.PlainAid Go.Maps Go.WideShapes
set_option linter.unusedVariables false
set_option linter.unusedSimpArgs false
theorem keyS : Keyed Try.prog 9 := string_keyed Try.underlying9
/-- A map that counts names. -/
def MK (mb n : Nat) (ks : List (List UInt8)) (w : World) : Prop := ∃ D : DataW Unit, w.ownsMap Try.prog 9 (plainElem Try.prog 3) mb n D ∧ (∀ k, Maps.has D k = true ↔ ∃ s ∈ ks, k = .string s) ∧ (∀ k c, D.atKey k (.lit (.int .i64 0)) = .lit (.int .i64 c) → 0 ≤ c ∧ c ≤ n)
theorem MK.made (w : World) : MK w.heap.size 0 [] (w.alloc (.map #[] 0)) := by
  refine ⟨.map [], World.ownsMap_made _ _ _ _, fun k => by simp [Maps.has], fun k c h => ?_⟩
  simp [DataW.atKey] at h
  omega
theorem MK.lt {mb n : Nat} {ks : List (List UInt8)} {w : World} (h : MK mb n ks w) : mb < w.heap.size := by
  obtain ⟨D, h, _⟩ := h
  exact h.lt
theorem MK.kept {mb n : Nat} {ks : List (List UInt8)} {w w' : World} {row : Option Nat} (h : MK mb n ks w) (hg : w.grownBy w' row) (hne : some mb ≠ row) : MK mb n ks w' := by
  obtain ⟨D, h1, h2, h3⟩ := h
  exact ⟨D, h1.kept hg hne, h2, h3⟩
theorem MK.stay {mb n : Nat} {ks : List (List UInt8)} {w w' : World} (h : MK mb n ks w) (hb : w'.heap[mb]? = w.heap[mb]?) : MK mb n ks w' := by
  obtain ⟨D, ⟨es, clock, h1, h1b⟩, h2, h3⟩ := h
  exact ⟨D, ⟨es, clock, hb.trans h1, h1b⟩, h2, h3⟩
theorem MK.mono {mb n m : Nat} {ks : List (List UInt8)} {w : World} (h : MK mb n ks w) (hm : n ≤ m) : MK mb m ks w := by
  obtain ⟨D, h1, h2, h3⟩ := h
  exact ⟨D, h1.mono hm, h2, fun k c hc => by have := h3 k c hc; omega⟩
theorem zeroInt (w : World) : (zeroValue 3).run Try.prog w = .ok (.int .i64 0) w := by kernel_rfl
/-- One name more. -/
theorem MK.put {mb n : Nat} {ks : List (List UInt8)} {w : World} (h : MK mb n ks w) (hn : n ≤ 1000000) (s : ByteArray) (hs : s.size ≤ maxLen) : ∃ c : Int, (0 ≤ c ∧ c ≤ n) ∧ (Instr.lookup 59 (.map (some mb)) (.string s) false).run Try.prog w = .ok (.int .i64 c) w ∧
    ∃ w', (Instr.mapUpdate 59 (.map (some mb)) (.string s) (.int .i64 (c + 1))).run Try.prog w = .ok () w' ∧ MK mb (n + 1) (ks ++ [s.data.toList]) w' ∧ w.grownBy w' (some mb) := by
  obtain ⟨D, h1, h2, h3⟩ := h
  have hk : keyOf Try.prog 9 (.string s) = some (.string s.data.toList) := Go.WideMaps.keyOf_string_mk Try.underlying9 hs
  obtain ⟨c, hr, hat, hwc⟩ := h1.lookup_int keyS Try.underlying59 Try.underlying3 (zeroInt w) hk
  have hc := h3 _ _ hat
  have hwf : (Lit.int .i64 (c + 1)).wf = true := by simp [Lit.wf, IntKind.min, IntKind.max, IntKind.bits, IntKind.signed]; omega
  obtain ⟨w', hr', ho, hg⟩ := h1.update keyS Try.underlying59 (by unfold maxLen; omega) (val := .int .i64 (c + 1)) hk (plainElem_int Try.underlying3 hwf)
  obtain ⟨es, hD, hmm⟩ := h1.canon keyS
  have hD2 : IsMap D := ⟨es, hD⟩
  have hkl : WideAt.IsKeyLit (.string s.data.toList) := keyS.key hk
  refine ⟨c, hc, hr, w', hr', ⟨_, ho, fun k => ?_, fun k c' hc' => ?_⟩, hg⟩
  · by_cases e : k = .string s.data.toList
    · subst e
      rw [has_put_same hD2 hkl]
      simp
    · rw [has_put_other e, h2]
      constructor
      · rintro ⟨u, hu, rfl⟩; exact ⟨u, by simp [hu], rfl⟩
      · rintro ⟨u, hu, rfl⟩
        rcases List.mem_append.1 hu with hu | hu
        · exact ⟨u, hu, rfl⟩
        · rw [List.mem_singleton] at hu; subst hu; exact absurd rfl e
  · by_cases e : k = .string s.data.toList
    · subst e
      rw [atKey_put_same hD2 hkl] at hc'
      injection hc' with hc'
      injection hc' with _ hc'
      omega
    · rw [atKey_put_other e] at hc'
      have := h3 k c' hc'
      omega
theorem wpList_updS {w w' : World} {ops : Array Oper} {rest : List Oper} {o : Oper} {a : Act} {Q : Exit → Act → World → Prop} (hgd : o.guard = none) (m x v : Operand) (t : TypeId)
    (ho : o.op = Op.mapUpdate t m x v) (mv key val : Value) (hm : a.eval m = mv) (hx : a.eval x = key) (hv : a.eval v = val)
    (hr : (Instr.mapUpdate t mv key val).run Try.prog w = .ok () w') (h : wpList Try.prog ops Q rest (a.put o.dst undef) w') : wpList Try.prog ops Q (o :: rest) a w := by
  refine wpList_plain hgd fun K hK => ?_
  unfold Oper.wp
  simp [execOp, ho, hm, hx, hv, hr, Result.andThen]
  exact hK _ _ h
/-- The observables of an expression, the currencies of a term. -/
def Xp.see : Xp → List (List UInt8)
  | .mk o _ s l => (if o = 3 then [s.data.toList] else []) ++ sees l
where sees : List Xp → List (List UInt8)
  | [] => []
  | x :: t => x.see ++ sees t
def Tr.coin : Tr → List (List UInt8)
  | .mk o s _ l => (if o = 2 then [s.data.toList] else []) ++ coins l
where coins : List Tr → List (List UInt8)
  | [] => []
  | x :: t => x.coin ++ coins t
theorem Xp.see_eq (x : Xp) : x.see = (if x.op = 3 then [x.nm.data.toList] else []) ++ Xp.see.sees x.args := by cases x; rfl
theorem Tr.coin_eq (x : Tr) : x.coin = (if x.op = 2 then [x.nm.data.toList] else []) ++ Tr.coin.coins x.terms := by cases x; rfl
theorem sees_take {l : List Xp} {j : Nat} {x : Xp} (h : l[j]? = some x) : Xp.see.sees (l.take (j + 1)) = Xp.see.sees (l.take j) ++ x.see := by
  induction l generalizing j with
  | nil => simp at h
  | cons y t ih =>
    cases j with
    | zero => simp at h; subst h; simp [Xp.see.sees]
    | succ j => simp at h; simp [Xp.see.sees, ih h]
theorem coins_take {l : List Tr} {j : Nat} {x : Tr} (h : l[j]? = some x) : Tr.coin.coins (l.take (j + 1)) = Tr.coin.coins (l.take j) ++ x.coin := by
  induction l generalizing j with
  | nil => simp at h
  | cons y t ih =>
    cases j with
    | zero => simp at h; subst h; simp [Tr.coin.coins]
    | succ j => simp at h; simp [Tr.coin.coins, ih h]
set_option maxRecDepth 100000 in
set_option maxHeartbeats 8000000 in
theorem meetExpr_any {S : Nat → Prop} {B mb : Nat} (hS : ∀ b, S b → b < B ∧ b ≠ mb) (x : Xp) : ∀ (n : Nat) (ks : List (List UInt8)) (bo : Option Addr) (k : Nat) (w : World), B ≤ w.heap.size → MK mb n ks w → x.fit → x.args.length ≤ k → ExL S w x.args bo → n + x.cnt ≤ 1000000 →
    Calls Try.prog 41 #[exV x bo k, .map (some mb)] w fun e w' => e = .returned (.tuple #[]) ∧ MK mb (n + x.cnt) (ks ++ x.see) w' ∧ w.grownBy w' (some mb) := by
  induction x using Xp.ind with
  | h x IH =>
  intro n ks bo k w hB h hf hk hx hn
  have hc := x.cnt_eq
  have he := x.see_eq
  have hfe := (x.fit_eq).1 hf
  have hql := h.lt
  obtain ⟨z, hz⟩ : ∃ z, z = w.heap.size := ⟨_, rfl⟩
  obtain ⟨l, hl⟩ : ∃ l, l = x.args := ⟨_, rfl⟩
  rw [← hl] at IH hk hx hc he hfe
  obtain ⟨m, hm⟩ : ∃ m, m = l.length := ⟨_, rfl⟩
  obtain ⟨xo, hxo⟩ : ∃ v, v = x.op := ⟨_, rfl⟩
  obtain ⟨xn, hxn⟩ : ∃ v, v = x.n := ⟨_, rfl⟩
  obtain ⟨xs, hxs⟩ : ∃ v, v = x.nm := ⟨_, rfl⟩
  rw [show exV x bo k = .agg #[.int .i64 xo, .int .i64 xn, .string xs, .slice bo m k] from by rw [hm, hl, hxo, hxn, hxs]]
  rw [← hxo, ← hxs] at he
  rw [← hxs] at hfe
  have GA : Hid (∀ W, w.alloc (.cells #[.int .i64 xo, .int .i64 xn, .string xs, .slice bo m k] 46) = W → MK mb n ks W ∧ W.heap[z]? = some (.cells #[.int .i64 xo, .int .i64 xn, .string xs, .slice bo m k] 46 (0, 0)) ∧ w.grownBy W (some mb)) := Lib.hid (by
    rintro W rfl
    refine ⟨h.kept (World.grownBy_alloc w _ none) (by simp), ?_, alloc_only _ _ _⟩
    rw [hz]; exact heap_alloc_new w _)
  have HX : Hid (∀ W, w.grownBy W (some mb) → ExL S W l bo) := Lib.hid fun W hW => hx.stay (fun _ h => h) fun b hb => hW.block b (by have := (hS b hb).1; omega) (by intro e; cases e; exact (hS _ hb).2 rfl)
  have HI := Lib.hid IH
  have HFE := Lib.hid hfe
  have HE := Lib.hid he
  have HA := Lib.hid (And.intro hc (And.intro hn (And.intro hB hk)))
  have HM := Lib.hid hm
  have hm6 : m < 1000001 := by
    have := len_cnts l
    omega
  have HZM := Lib.hid (show mb < z from by omega)
  clear h hx IH hk hc he hn hl hm hql hxo hxn hxs hfe hf hB
  go_enter Try.func41, Try.ntmps41
  go_upto_region 1 with fail
  obtain ⟨W, hW⟩ : ∃ X, w.alloc (.cells #[.int .i64 xo, .int .i64 xn, .string xs, .slice bo m k] 46) = X := ⟨_, rfl⟩
  rw [hW, ← hz]
  obtain ⟨m1, b1, g1⟩ := GA.out W hW
  have HG := Lib.hid g1
  have HM1 := Lib.hid m1
  have HB1 := Lib.hid b1
  obtain ⟨c0, c1, c2, c3⟩ := quad b1
  clear hW m1 b1 g1 GA hz
  go_upto_if 8 with fail
  go_cut [] (fun wx => ∃ a : Nat, Hid (a ≤ 1 ∧ MK mb (n + a) (ks ++ (if xo = 3 then [xs.data.toList] else [])) wx ∧ w.grownBy wx (some mb) ∧ wx.heap[z]? = W.heap[z]?))
  case first =>
    by_cases h3 : xo = 3
    · subst h3
      obtain ⟨c, ⟨hc0, hc1⟩, hlook, w2, hput, hmk, hgr⟩ := HM1.out.put (by have := HA.out; omega) xs HFE.out.1
      have HMK := Lib.hid hmk
      have HGR := Lib.hid hgr
      have hn6 : n ≤ 1000000 := by have := HA.out; omega
      clear hmk hgr
      go_wp2_with (at_mapUpdate; refine wpList_updS rfl _ _ _ _ rfl _ _ _ rfl rfl rfl hput ?_)
      go_meet
      exact ⟨1, Lib.hid ⟨by omega, by simpa using HMK.out, only_trans HG.out HGR.out, HGR.out.block z (lt_of_heap HB1.out) (by intro e; cases e; exact Nat.lt_irrefl _ HZM.out)⟩⟩
    · go_wp2_with fail
      go_meet
      exact ⟨0, Lib.hid ⟨by omega, by simpa [h3] using HM1.out, HG.out, rfl⟩⟩
  case rest =>
    obtain ⟨a, HCU⟩ := hcut
    clear c0 c1 c2 c3
    have c3 : wc.cell? ⟨z, 3, none⟩ = some (.slice bo m k) := cell_blk (HCU.out.2.2.2.trans HB1.out) 3
    obtain ⟨k0, hk0⟩ : ∃ v, v = ks ++ (if xo = 3 then [xs.data.toList] else []) := ⟨_, rfl⟩
    rw [← hk0] at HCU
    have HK0 := Lib.hid hk0
    clear hk0
    go_upto_region 4 with fail
    clear c3
    go_loopw [17] (fun v wr => ∃ j : Nat, j ≤ m ∧ v = .int .i64 j ∧ Hid (MK mb (n + 1 + Xp.cnt.cnts (l.take j)) (k0 ++ Xp.see.sees (l.take j)) wr ∧ w.grownBy wr (some mb))) (fun v _ => m - (intOf v).toNat)
    case atStart => exact ⟨0, by omega, rfl, Lib.hid ⟨by simpa [Xp.see.sees, Xp.cnt.cnts] using HCU.out.2.1.mono (by have := HCU.out.1; omega), HCU.out.2.2.1⟩⟩
    case round =>
      obtain ⟨j, hj, rfl, HR⟩ := hrel
      by_cases hlt : j < m
      · obtain ⟨y, hy⟩ : ∃ y, l[j]? = some y := ⟨_, List.getElem?_eq_getElem (by rw [← HM.out]; exact hlt)⟩
        obtain ⟨a, co, ck, rfl, hsa, hck, ⟨y0, y1, y2, y3⟩, hyl⟩ := (HX.out wr HR.out.2).get hy
        have IHy := HI.out y (List.mem_of_getElem? hy)
        have hcj := cnts_take hy
        have hsj := sees_take hy
        have hle := cnts_le l (j + 1)
        have hfy := (xfits_all _).1 HFE.out.2 y (List.mem_of_getElem? hy)
        have CY : Hid (∀ W, wr.grownBy W (some mb) → MK mb (n + 1 + Xp.cnt.cnts (l.take j)) (k0 ++ Xp.see.sees (l.take j)) W → Calls Try.prog 41 #[exV y co ck, .map (some mb)] W fun e w' => e = .returned (.tuple #[]) ∧ MK mb (n + 1 + Xp.cnt.cnts (l.take (j + 1))) (k0 ++ Xp.see.sees (l.take (j + 1))) w' ∧ W.grownBy w' (some mb)) := Lib.hid fun W hg hW => by
          have hA := HA.out
          have hszr := HR.out.2.size
          have := IHy (n + 1 + Xp.cnt.cnts (l.take j)) (k0 ++ Xp.see.sees (l.take j)) co ck W (by have := hg.size; omega) hW hfy hck (hyl.stay (fun _ h => h) fun b hb => hg.block b (by have := (hS b hb).1; omega) (by intro e; cases e; exact (hS _ hb).2 rfl)) (by omega)
          rw [show n + 1 + Xp.cnt.cnts (l.take j) + y.cnt = n + 1 + Xp.cnt.cnts (l.take (j + 1)) from by omega, List.append_assoc, ← hsj] at this
          exact this
        obtain ⟨cm, hcm⟩ : ∃ c, c = y.args.length := ⟨_, rfl⟩
        obtain ⟨yo, hyo⟩ : ∃ v, v = y.op := ⟨_, rfl⟩
        obtain ⟨yn, hyn⟩ : ∃ v, v = y.n := ⟨_, rfl⟩
        obtain ⟨ys, hys⟩ : ∃ v, v = y.nm := ⟨_, rfl⟩
        rw [← hcm] at y3
        rw [← hyo] at y0
        rw [← hyn] at y1
        rw [← hys] at y2
        have CY2 : Hid (∀ W, wr.grownBy W (some mb) → MK mb (n + 1 + Xp.cnt.cnts (l.take j)) (k0 ++ Xp.see.sees (l.take j)) W → Calls Try.prog 41 #[.agg #[.int .i64 yo, .int .i64 yn, .string ys, .slice co cm ck], .map (some mb)] W fun e w' => e = .returned (.tuple #[]) ∧ MK mb (n + 1 + Xp.cnt.cnts (l.take (j + 1))) (k0 ++ Xp.see.sees (l.take (j + 1))) w' ∧ W.grownBy w' (some mb)) := by
          rw [hcm, hyo, hyn, hys]; exact CY
        obtain ⟨⟨r0, r1, r2, r3⟩, p0, p1, p2, p3⟩ := new_zero wr (.int .i64 0) (.int .i64 0) (.string ⟨#[]⟩) (.slice none 0 0) 46
        obtain ⟨u, hu⟩ : ∃ u, u = wr.heap.size := ⟨_, rfl⟩
        have j0 : (0 : Int) ≤ (j : Int) := by omega
        have j1 : (j : Int) < (m : Int) := by omega
        clear hcm hyo hyn hys hsa hck hyl hy CY IHy hcj hsj hle hfy
        go_upto_region 6 with fail
        clear r0 r1 r2 r3 p0 p1 p2 p3 y0 y1 y2 y3
        obtain ⟨W3, hW3⟩ : ∃ X, wr.alloc (.cells #[.int .i64 yo, .int .i64 yn, .string ys, .slice co cm ck] 46) = X := ⟨_, rfl⟩
        have HB3 := Lib.hid (made_box wr _ W3 hW3)
        have hb3 : W3.heap[wr.heap.size]? = some (.cells #[.int .i64 yo, .int .i64 yn, .string ys, .slice co cm ck] 46 (0, 0)) := by rw [← hW3]; exact heap_alloc_new _ _
        rw [hW3]
        obtain ⟨y0, y1, y2, y3⟩ := quad hb3
        rw [← hu] at y0 y1 y2 y3 ⊢
        clear hb3 hW3 hu
        have HM3 : Hid (MK mb (n + 1 + Xp.cnt.cnts (l.take j)) (k0 ++ Xp.see.sees (l.take j)) W3) := Lib.hid (HR.out.1.stay (HB3.out.1.2.block mb HR.out.1.lt))
        go_wp2_with (go_at_call 41; (with_reducible refine (CY2.out _ (HB3.out.2 mb) HM3.out).mono ?_); rintro e w4 ⟨rfl, h1, h2⟩; have HZ4 := Lib.hid (And.intro h1 (only_trans HR.out.2 (only_trans (HB3.out.2 mb) h2))); clear h1 h2)
        go_roundw
        case rel => exact ⟨j + 1, by omega, by go_num, HZ4⟩
        case measure => simp [intOf]; omega
      · obtain rfl : j = m := by omega
        have HF := HR.out
        rw [List.take_of_length_le (by rw [HM.out]; exact Nat.le_refl _)] at HF
        have HF2 := Lib.hid HF
        clear HF
        go_wp2_with fail
        go_end0
        have hA := HA.out
        refine ⟨rfl, ?_, HF2.out.2⟩
        rw [show n + x.cnt = n + 1 + Xp.cnt.cnts l from by omega, HE.out, ← List.append_assoc, ← HK0.out]
        exact HF2.out.1
/-- All old blocks but two are as they were. -/
structure G2 (b1 b2 : Nat) (w w' : World) : Prop where
  os : w'.os = w.os
  tape : w'.tape = w.tape
  output : w'.output = w.output
  size : w.heap.size ≤ w'.heap.size
  block : ∀ k, k < w.heap.size → k ≠ b1 → k ≠ b2 → w'.heap[k]? = w.heap[k]?
theorem G2.trans {b1 b2 : Nat} {a b c : World} (h : G2 b1 b2 a b) (k : G2 b1 b2 b c) : G2 b1 b2 a c :=
  ⟨k.os.trans h.os, k.tape.trans h.tape, k.output.trans h.output, Nat.le_trans h.size k.size, fun i hi h1 h2 => (k.block i (Nat.lt_of_lt_of_le hi h.size) h1 h2).trans (h.block i hi h1 h2)⟩
theorem G2.one {b1 b2 q : Nat} {a b : World} (h : a.grownBy b (some q)) (hq : q = b1 ∨ q = b2) : G2 b1 b2 a b :=
  ⟨h.os, h.tape, h.output, h.size, fun i hi h1 h2 => h.block i hi (fun e => by injection e with e; omega)⟩
theorem G2.bel {b1 b2 : Nat} {a b : World} (h : Below a.heap.size a b) : G2 b1 b2 a b := ⟨h.os, h.tape, h.output, h.size, fun i hi _ _ => h.block i hi⟩
theorem G2.below {b1 b2 B : Nat} {a b : World} (h : G2 b1 b2 a b) (h1 : B ≤ b1) (h2 : B ≤ b2) (hB : B ≤ a.heap.size) : Below B a b := ⟨h.os, h.tape, h.output, h.size, fun i hi => h.block i (by omega) (by omega) (by omega)⟩
set_option maxRecDepth 100000 in
set_option maxHeartbeats 8000000 in
theorem meet_any {S : Nat → Prop} {B mb nb : Nat} (hmn : mb ≠ nb) (hS : ∀ b, S b → b < B ∧ b ≠ mb ∧ b ≠ nb) (x : Tr) : ∀ (n m : Nat) (ks js : List (List UInt8)) (xo' : Option Addr) (xk : Nat) (to' : Option Addr) (tk' : Nat) (w : World), B ≤ w.heap.size → MK mb n ks w → MK nb m js w → x.fit → x.exprs.length ≤ xk → x.terms.length ≤ tk' → ExL S w x.exprs xo' → TrL S w x.terms to' → n + x.cnt ≤ 1000000 → m + x.cnt ≤ 1000000 →
    Calls Try.prog 28 #[trV x xo' xk to' tk', .map (some mb), .map (some nb)] w fun e w' => e = .returned (.tuple #[]) ∧ (∃ js', MK mb (n + x.cnt) (ks ++ x.coin) w' ∧ MK nb (m + x.cnt) js' w') ∧ G2 mb nb w w' := by
  induction x using Tr.ind with
  | h x IH =>
  intro n mm ks js xo' xk to' tk' w hB h h' hf hk hk2 hx hx2 hn hn2
  have hc := x.cnt_eq
  have he := x.coin_eq
  have hfe := (x.fit_eq).1 hf
  have hql := h.lt
  have hql2 := h'.lt
  obtain ⟨z, hz⟩ : ∃ z, z = w.heap.size := ⟨_, rfl⟩
  obtain ⟨l, hl⟩ : ∃ l, l = x.exprs := ⟨_, rfl⟩
  obtain ⟨l2, hl2⟩ : ∃ l, l = x.terms := ⟨_, rfl⟩
  rw [← hl] at hk hx hc hfe
  rw [← hl2] at IH hk2 hx2 hc he hfe
  obtain ⟨m, hm⟩ : ∃ m, m = l.length := ⟨_, rfl⟩
  obtain ⟨m2, hm2⟩ : ∃ m, m = l2.length := ⟨_, rfl⟩
  obtain ⟨xo, hxo⟩ : ∃ v, v = x.op := ⟨_, rfl⟩
  obtain ⟨xs, hxs⟩ : ∃ v, v = x.nm := ⟨_, rfl⟩
  rw [show trV x xo' xk to' tk' = .agg #[.int .i64 xo, .string xs, .slice xo' m xk, .slice to' m2 tk'] from by rw [hm, hm2, hl, hl2, hxo, hxs]]
  rw [← hxo, ← hxs] at he
  rw [← hxs] at hfe
  have GA : Hid (∀ W, w.alloc (.cells #[.int .i64 xo, .string xs, .slice xo' m xk, .slice to' m2 tk'] 33) = W → MK mb n ks W ∧ MK nb mm js W ∧ W.heap[z]? = some (.cells #[.int .i64 xo, .string xs, .slice xo' m xk, .slice to' m2 tk'] 33 (0, 0)) ∧ G2 mb nb w W) := Lib.hid (by
    rintro W rfl
    refine ⟨h.kept (World.grownBy_alloc w _ none) (by simp), h'.kept (World.grownBy_alloc w _ none) (by simp), ?_, G2.bel ((Below.refl w.heap.size w).alloc (Nat.le_refl _) _)⟩
    rw [hz]; exact heap_alloc_new w _)
  have HST : Hid (∀ W, G2 mb nb w W → ∀ b, S b → W.heap[b]? = w.heap[b]?) := Lib.hid fun W hW b hb => hW.block b (by have := (hS b hb).1; omega) (hS b hb).2.1 (hS b hb).2.2
  have HX : Hid (∀ W, G2 mb nb w W → ExL S W l xo') := Lib.hid fun W hW => hx.stay (fun _ h => h) (HST.out W hW)
  have HY : Hid (∀ W, G2 mb nb w W → TrL S W l2 to') := Lib.hid fun W hW => hx2.stay (fun _ h => h) (HST.out W hW)
  have HI := Lib.hid IH
  have HFE := Lib.hid hfe
  have HE := Lib.hid he
  have HA := Lib.hid (And.intro hc (And.intro hn (And.intro hn2 hB)))
  have HM := Lib.hid hm
  have HM2 := Lib.hid hm2
  have hm6 : m < 1000001 ∧ m2 < 1000001 := by
    have := len_cnts l
    have := len_tcnts l2
    omega
  obtain ⟨hm6, hm7⟩ := hm6
  have HZM := Lib.hid (show mb < z ∧ nb < z from by omega)
  clear h h' hx hx2 IH hk hk2 hc he hn hn2 hl hl2 hm hm2 hql hql2 hxo hxs hfe hf hB
  go_enter Try.func28, Try.ntmps28
  go_upto_region 1 with fail
  obtain ⟨W, hW⟩ : ∃ X, w.alloc (.cells #[.int .i64 xo, .string xs, .slice xo' m xk, .slice to' m2 tk'] 33) = X := ⟨_, rfl⟩
  rw [hW, ← hz]
  obtain ⟨m1, m1', b1, g1⟩ := GA.out W hW
  have HG := Lib.hid g1
  have HM1 := Lib.hid m1
  have HM1' := Lib.hid m1'
  have HB1 := Lib.hid b1
  obtain ⟨c0, c1, c2, c3⟩ := quad b1
  clear hW m1 m1' b1 g1 GA hz
  go_upto_if 12 with fail
  go_cut [] (fun wx => ∃ a : Nat, Hid (a ≤ 1 ∧ MK mb (n + a) (ks ++ (if xo = 2 then [xs.data.toList] else [])) wx ∧ MK nb mm js wx ∧ G2 mb nb w wx ∧ wx.heap[z]? = W.heap[z]?))
  case first =>
    by_cases h3 : xo = 2
    · subst h3
      obtain ⟨c, ⟨hc0, hc1⟩, hlook, w2, hput, hmk, hgr⟩ := HM1.out.put (by have := HA.out; omega) xs HFE.out.1
      have HMK := Lib.hid hmk
      have HGR := Lib.hid hgr
      have hn6 : n ≤ 1000000 := by have := HA.out; omega
      clear hmk hgr
      go_wp2_with (at_mapUpdate; refine wpList_updS rfl _ _ _ _ rfl _ _ _ rfl rfl rfl hput ?_)
      go_meet
      exact ⟨1, Lib.hid ⟨by omega, by simpa using HMK.out, HM1'.out.kept HGR.out (by intro e; injection e with e; exact hmn e.symm), HG.out.trans (G2.one HGR.out (.inl rfl)), HGR.out.block z (lt_of_heap HB1.out) (by intro e; cases e; exact Nat.lt_irrefl _ HZM.out.1)⟩⟩
    · go_wp2_with fail
      go_meet
      exact ⟨0, Lib.hid ⟨by omega, by simpa [h3] using HM1.out, HM1'.out, HG.out, rfl⟩⟩
  case rest =>
    obtain ⟨a, HCU⟩ := hcut
    clear c0 c1 c2 c3
    have c2 : wc.cell? ⟨z, 2, none⟩ = some (.slice xo' m xk) := cell_blk (HCU.out.2.2.2.2.trans HB1.out) 2
    obtain ⟨k0, hk0⟩ : ∃ v, v = ks ++ (if xo = 2 then [xs.data.toList] else []) := ⟨_, rfl⟩
    rw [← hk0] at HCU
    have HK0 := Lib.hid hk0
    clear hk0
    go_upto_region 4 with fail
    clear c2
    go_loopw [21] (fun v wr => ∃ (j : Nat) (js' : List (List UInt8)), j ≤ m ∧ v = .int .i64 j ∧ Hid (MK mb (n + 1) k0 wr ∧ MK nb (mm + Xp.cnt.cnts (l.take j)) js' wr ∧ G2 mb nb w wr ∧ wr.heap[z]? = W.heap[z]?)) (fun v _ => m - (intOf v).toNat)
    case atStart => exact ⟨0, js, by omega, rfl, Lib.hid ⟨HCU.out.2.1.mono (by have := HCU.out.1; omega), by simpa [Xp.cnt.cnts] using HCU.out.2.2.1, HCU.out.2.2.2.1, HCU.out.2.2.2.2⟩⟩
    case round =>
      obtain ⟨j, js', hj, rfl, HR⟩ := hrel
      by_cases hlt : j < m
      · obtain ⟨y, hy⟩ : ∃ y, l[j]? = some y := ⟨_, List.getElem?_eq_getElem (by rw [← HM.out]; exact hlt)⟩
        obtain ⟨a, co, ck, rfl, hsa, hck, ⟨y0, y1, y2, y3⟩, hyl⟩ := (HX.out wr HR.out.2.2.1).get hy
        have hcj := cnts_take hy
        have hle := cnts_le l (j + 1)
        have hfy := HFE.out.2.1 y (List.mem_of_getElem? hy)
        have CY : Hid (∀ W, G2 mb nb w W → MK nb (mm + Xp.cnt.cnts (l.take j)) js' W → Calls Try.prog 41 #[exV y co ck, .map (some nb)] W fun e w' => e = .returned (.tuple #[]) ∧ MK nb (mm + Xp.cnt.cnts (l.take (j + 1))) (js' ++ y.see) w' ∧ W.grownBy w' (some nb)) := Lib.hid fun W hg hW => by
          have hA := HA.out
          have hst : ∀ b, S b → W.heap[b]? = wr.heap[b]? := fun b hb => (HST.out W hg b hb).trans (HST.out wr HR.out.2.2.1 b hb).symm
          have := meetExpr_any (S := S) (B := B) (mb := nb) (fun b hb => ⟨(hS b hb).1, (hS b hb).2.2⟩) y (mm + Xp.cnt.cnts (l.take j)) js' co ck W (by have := hg.size; omega) hW hfy hck (hyl.stay (fun _ h => h) hst) (by omega)
          rw [show mm + Xp.cnt.cnts (l.take j) + y.cnt = mm + Xp.cnt.cnts (l.take (j + 1)) from by omega] at this
          exact this
        obtain ⟨cm, hcm⟩ : ∃ c, c = y.args.length := ⟨_, rfl⟩
        obtain ⟨yo, hyo⟩ : ∃ v, v = y.op := ⟨_, rfl⟩
        obtain ⟨yn, hyn⟩ : ∃ v, v = y.n := ⟨_, rfl⟩
        obtain ⟨ys, hys⟩ : ∃ v, v = y.nm := ⟨_, rfl⟩
        rw [← hcm] at y3
        rw [← hyo] at y0
        rw [← hyn] at y1
        rw [← hys] at y2
        obtain ⟨ysee, hysee⟩ : ∃ v, v = y.see := ⟨_, rfl⟩
        rw [← hysee] at CY
        have CY2 : Hid (∀ W, G2 mb nb w W → MK nb (mm + Xp.cnt.cnts (l.take j)) js' W → Calls Try.prog 41 #[.agg #[.int .i64 yo, .int .i64 yn, .string ys, .slice co cm ck], .map (some nb)] W fun e w' => e = .returned (.tuple #[]) ∧ MK nb (mm + Xp.cnt.cnts (l.take (j + 1))) (js' ++ ysee) w' ∧ W.grownBy w' (some nb)) := by
          rw [hcm, hyo, hyn, hys]; exact CY
        clear hysee
        obtain ⟨⟨r0, r1, r2, r3⟩, p0, p1, p2, p3⟩ := new_zero wr (.int .i64 0) (.int .i64 0) (.string ⟨#[]⟩) (.slice none 0 0) 46
        obtain ⟨u, hu⟩ : ∃ u, u = wr.heap.size := ⟨_, rfl⟩
        have j0 : (0 : Int) ≤ (j : Int) := by omega
        have j1 : (j : Int) < (m : Int) := by omega
        clear hcm hyo hyn hys hsa hck hyl hy CY hcj hle hfy
        go_upto_region 6 with fail
        clear r0 r1 r2 r3 p0 p1 p2 p3 y0 y1 y2 y3
        obtain ⟨W3, hW3⟩ : ∃ X, wr.alloc (.cells #[.int .i64 yo, .int .i64 yn, .string ys, .slice co cm ck] 46) = X := ⟨_, rfl⟩
        have HB3 := Lib.hid (made_box wr _ W3 hW3)
        have hb3 : W3.heap[wr.heap.size]? = some (.cells #[.int .i64 yo, .int .i64 yn, .string ys, .slice co cm ck] 46 (0, 0)) := by rw [← hW3]; exact heap_alloc_new _ _
        rw [hW3]
        obtain ⟨y0, y1, y2, y3⟩ := quad hb3
        rw [← hu] at y0 y1 y2 y3 ⊢
        clear hb3 hW3 hu
        have HG3 := Lib.hid (HR.out.2.2.1.trans (G2.bel HB3.out.1.2))
        have HM3 := Lib.hid (HR.out.2.1.stay (HB3.out.1.2.block nb HR.out.2.1.lt))
        have HN3 := Lib.hid (HR.out.1.stay (HB3.out.1.2.block mb HR.out.1.lt))
        have HZ3 : Hid (W3.heap[z]? = W.heap[z]? ∧ z < W3.heap.size) := Lib.hid (by
          have : z < wr.heap.size := by have h1 := HR.out.2.2.2; have h2 := HB1.out; rw [← h1] at h2; exact lt_of_heap h2
          exact ⟨(HB3.out.1.2.block z this).trans HR.out.2.2.2, Nat.lt_of_lt_of_le this HB3.out.1.2.size⟩)
        go_wp2_with (go_at_call 41; (with_reducible refine (CY2.out _ HG3.out HM3.out).mono ?_); rintro e w4 ⟨rfl, h1, h2⟩; have HZ4 := Lib.hid (And.intro (HN3.out.kept h2 (by intro e; injection e with e; exact hmn e)) (And.intro h1 (And.intro (HG3.out.trans (G2.one h2 (.inr rfl))) ((h2.block z HZ3.out.2 (by intro e; cases e; exact Nat.lt_irrefl _ HZM.out.2)).trans HZ3.out.1)))); clear h1 h2)
        go_roundw
        case rel => exact ⟨j + 1, _, by omega, by go_num, HZ4⟩
        case measure => simp [intOf]; omega
      · obtain rfl : j = m := by omega
        have HF := HR.out
        rw [List.take_of_length_le (by rw [HM.out]; exact Nat.le_refl _)] at HF
        have HF2 := Lib.hid HF
        clear HF HR
        have HBZ := Lib.hid (HF2.out.2.2.2.trans HB1.out)
        have c3 : wr.cell? ⟨z, 3, none⟩ = some (.slice to' m2 tk') := cell_blk HBZ.out 3
        go_upto_region 9 with fail
        clear c3
        obtain ⟨wk, hwk⟩ : ∃ X, X = wr := ⟨_, rfl⟩
        rw [← hwk] at HF2 HBZ ⊢
        clear hwk
        go_loopw [32] (fun v wr => ∃ (j : Nat) (js' : List (List UInt8)), j ≤ m2 ∧ v = .int .i64 j ∧ Hid (MK mb (n + 1 + Tr.cnt.cnts (l2.take j)) (k0 ++ Tr.coin.coins (l2.take j)) wr ∧ MK nb (mm + Xp.cnt.cnts l + Tr.cnt.cnts (l2.take j)) js' wr ∧ G2 mb nb w wr)) (fun v _ => m2 - (intOf v).toNat)
        case atStart => exact ⟨0, js', by omega, rfl, Lib.hid ⟨by simpa [Tr.cnt.cnts, Tr.coin.coins] using HF2.out.1, by simpa [Tr.cnt.cnts] using HF2.out.2.1, HF2.out.2.2.1⟩⟩
        case round =>
          obtain ⟨j2, js2, hj2, rfl, HR⟩ := hrel
          by_cases hlt2 : j2 < m2
          · obtain ⟨y, hy⟩ : ∃ y, l2[j2]? = some y := ⟨_, List.getElem?_eq_getElem (by rw [← HM2.out]; exact hlt2)⟩
            obtain ⟨a, eo, ek, tb, tk, rfl, hsa, hek, htk, ⟨y0, y1, y2, y3⟩, hel, htl⟩ := (HY.out wr HR.out.2.2).get hy
            have IHy := HI.out y (List.mem_of_getElem? hy)
            have hcj := tcnts_take hy
            have hsj := coins_take hy
            have hle := tcnts_le l2 (j2 + 1)
            have hfy := (tfits_all _).1 HFE.out.2.2 y (List.mem_of_getElem? hy)
            have CY : Hid (∀ W, G2 mb nb w W → MK mb (n + 1 + Tr.cnt.cnts (l2.take j2)) (k0 ++ Tr.coin.coins (l2.take j2)) W → MK nb (mm + Xp.cnt.cnts l + Tr.cnt.cnts (l2.take j2)) js2 W → Calls Try.prog 28 #[trV y eo ek tb tk, .map (some mb), .map (some nb)] W fun e w' => e = .returned (.tuple #[]) ∧ (∃ js', MK mb (n + 1 + Tr.cnt.cnts (l2.take (j2 + 1))) (k0 ++ Tr.coin.coins (l2.take (j2 + 1))) w' ∧ MK nb (mm + Xp.cnt.cnts l + Tr.cnt.cnts (l2.take (j2 + 1))) js' w') ∧ G2 mb nb W w') := Lib.hid fun W hg hW hW2 => by
              have hA := HA.out
              have hst : ∀ b, S b → W.heap[b]? = wr.heap[b]? := fun b hb => (HST.out W hg b hb).trans (HST.out wr HR.out.2.2 b hb).symm
              have := IHy (n + 1 + Tr.cnt.cnts (l2.take j2)) (mm + Xp.cnt.cnts l + Tr.cnt.cnts (l2.take j2)) (k0 ++ Tr.coin.coins (l2.take j2)) js2 eo ek tb tk W (by have := hg.size; omega) hW hW2 hfy hek htk (hel.stay (fun _ h => h) hst) (htl.stay (fun _ h => h) hst) (by omega) (by omega)
              rw [show n + 1 + Tr.cnt.cnts (l2.take j2) + y.cnt = n + 1 + Tr.cnt.cnts (l2.take (j2 + 1)) from by omega, show mm + Xp.cnt.cnts l + Tr.cnt.cnts (l2.take j2) + y.cnt = mm + Xp.cnt.cnts l + Tr.cnt.cnts (l2.take (j2 + 1)) from by omega, List.append_assoc, ← hsj] at this
              exact this
            obtain ⟨em, hem⟩ : ∃ c, c = y.exprs.length := ⟨_, rfl⟩
            obtain ⟨tm, htm⟩ : ∃ c, c = y.terms.length := ⟨_, rfl⟩
            obtain ⟨yo, hyo⟩ : ∃ v, v = y.op := ⟨_, rfl⟩
            obtain ⟨ys, hys⟩ : ∃ v, v = y.nm := ⟨_, rfl⟩
            rw [← hem] at y2
            rw [← htm] at y3
            rw [← hyo] at y0
            rw [← hys] at y1
            have CY2 : Hid (∀ W, G2 mb nb w W → MK mb (n + 1 + Tr.cnt.cnts (l2.take j2)) (k0 ++ Tr.coin.coins (l2.take j2)) W → MK nb (mm + Xp.cnt.cnts l + Tr.cnt.cnts (l2.take j2)) js2 W → Calls Try.prog 28 #[.agg #[.int .i64 yo, .string ys, .slice eo em ek, .slice tb tm tk], .map (some mb), .map (some nb)] W fun e w' => e = .returned (.tuple #[]) ∧ (∃ js', MK mb (n + 1 + Tr.cnt.cnts (l2.take (j2 + 1))) (k0 ++ Tr.coin.coins (l2.take (j2 + 1))) w' ∧ MK nb (mm + Xp.cnt.cnts l + Tr.cnt.cnts (l2.take (j2 + 1))) js' w') ∧ G2 mb nb W w') := by
              rw [hem, htm, hyo, hys]; exact CY
            obtain ⟨⟨r0, r1, r2, r3⟩, p0, p1, p2, p3⟩ := new_zero wr (.int .i64 0) (.string ⟨#[]⟩) (.slice none 0 0) (.slice none 0 0) 33
            obtain ⟨u, hu⟩ : ∃ u, u = wr.heap.size := ⟨_, rfl⟩
            have j0 : (0 : Int) ≤ (j2 : Int) := by omega
            have j1 : (j2 : Int) < (m2 : Int) := by omega
            clear hem htm hyo hys hsa hek htk hel htl hy CY IHy hcj hsj hle hfy
            go_upto_region 11 with fail
            clear r0 r1 r2 r3 p0 p1 p2 p3 y0 y1 y2 y3
            obtain ⟨W3, hW3⟩ : ∃ X, wr.alloc (.cells #[.int .i64 yo, .string ys, .slice eo em ek, .slice tb tm tk] 33) = X := ⟨_, rfl⟩
            have HB3 := Lib.hid (made_box wr _ W3 hW3)
            have hb3 : W3.heap[wr.heap.size]? = some (.cells #[.int .i64 yo, .string ys, .slice eo em ek, .slice tb tm tk] 33 (0, 0)) := by rw [← hW3]; exact heap_alloc_new _ _
            rw [hW3]
            obtain ⟨y0, y1, y2, y3⟩ := quad hb3
            rw [← hu] at y0 y1 y2 y3 ⊢
            clear hb3 hW3 hu
            have HG3 := Lib.hid (HR.out.2.2.trans (G2.bel HB3.out.1.2))
            have HM3 := Lib.hid (HR.out.1.stay (HB3.out.1.2.block mb HR.out.1.lt))
            have HN3 := Lib.hid (HR.out.2.1.stay (HB3.out.1.2.block nb HR.out.2.1.lt))
            go_wp2_with (go_at_call 28; (with_reducible refine (CY2.out _ HG3.out HM3.out HN3.out).mono ?_); rintro e w4 ⟨rfl, ⟨js3, h1, h1'⟩, h2⟩; have HZ4 := Lib.hid (And.intro h1 (And.intro h1' (HG3.out.trans h2))); clear h1 h1' h2)
            go_roundw
            case rel => exact ⟨j2 + 1, _, by omega, by go_num, HZ4⟩
            case measure => simp [intOf]; omega
          · obtain rfl : j2 = m2 := by omega
            have HF := HR.out
            rw [List.take_of_length_le (by rw [HM2.out]; exact Nat.le_refl _)] at HF
            have HF3 := Lib.hid HF
            clear HF HR
            go_wp2_with fail
            go_end0
            have hA := HA.out
            refine ⟨rfl, ⟨js2, ?_, ?_⟩, HF3.out.2.2⟩
            · rw [HE.out, ← List.append_assoc, ← HK0.out]
              exact HF3.out.1.mono (by omega)
            · exact HF3.out.2.1.mono (by omega)
end Go.Proofs.Ytepoihokbcoidaa
