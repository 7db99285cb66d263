/- Layer 22: Needs. Conditions: those written at each theorem. -/
import Derived.Test.YtidldlhhmophjaaTrC
import Derived.Test.YtidldlhhmophjaaTrG
import Derived.Test.YtidldlhhmophjaaIter
import Derived.Maps.Ext
import Derived.Maps.OwnOps
import Derived.Test.YtidldlhhmophjaaObQ
import Derived.Test.YtidldlhhmophjaaCkP
namespace Go.Proofs.Ytidldlhhmophjaa
open Go.RowKit Go.PlainAid Go.Maps Go.WideShapes
set_option linter.unusedVariables false
set_option linter.unusedSimpArgs false
theorem keyS : Keyed Try.prog 9 := string_keyed Try.underlying9
/-- A map that counts names. -/
def MK (mb n : Nat) (ks : List (List UInt8)) (w : World) : Prop := ∃ D : DataW Unit, w.ownsMap Try.prog 9 (plainElem Try.prog 3) mb n D ∧ (∀ k, Maps.has D k = true ↔ ∃ s ∈ ks, k = .string s) ∧ (∀ k c, D.atKey k (.lit (.int .i64 0)) = .lit (.int .i64 c) → 0 ≤ c ∧ c ≤ n)
theorem MK.made (w : World) : MK w.heap.size 0 [] (w.alloc (.map #[] 0)) := by
  refine ⟨.map [], World.ownsMap_made _ _ _ _, fun k => by simp [Maps.has], fun k c h => ?_⟩
  simp [DataW.atKey] at h
  omega
theorem MK.lt {mb n : Nat} {ks : List (List UInt8)} {w : World} (h : MK mb n ks w) : mb < w.heap.size := by
  obtain ⟨D, h, _⟩ := h
  exact h.lt
theorem MK.kept {mb n : Nat} {ks : List (List UInt8)} {w w' : World} {row : Option Nat} (h : MK mb n ks w) (hg : w.grownBy w' row) (hne : some mb ≠ row) : MK mb n ks w' := by
  obtain ⟨D, h1, h2, h3⟩ := h
  exact ⟨D, h1.kept hg hne, h2, h3⟩
theorem MK.stay {mb n : Nat} {ks : List (List UInt8)} {w w' : World} (h : MK mb n ks w) (hb : w'.heap[mb]? = w.heap[mb]?) : MK mb n ks w' := by
  obtain ⟨D, ⟨es, clock, h1, h1b⟩, h2, h3⟩ := h
  exact ⟨D, ⟨es, clock, hb.trans h1, h1b⟩, h2, h3⟩
theorem MK.mono {mb n m : Nat} {ks : List (List UInt8)} {w : World} (h : MK mb n ks w) (hm : n ≤ m) : MK mb m ks w := by
  obtain ⟨D, h1, h2, h3⟩ := h
  exact ⟨D, h1.mono hm, h2, fun k c hc => by have := h3 k c hc; omega⟩
theorem zeroInt (w : World) : (zeroValue 3).run Try.prog w = .ok (.int .i64 0) w := by kernel_rfl
/-- One name more. -/
theorem MK.put {mb n : Nat} {ks : List (List UInt8)} {w : World} (h : MK mb n ks w) (hn : n ≤ 1000000) (s : ByteArray) (hs : s.size ≤ maxLen) : ∃ c : Int, (0 ≤ c ∧ c ≤ n) ∧ (Instr.lookup 106 (.map (some mb)) (.string s) false).run Try.prog w = .ok (.int .i64 c) w ∧
    ∃ w', (Instr.mapUpdate 106 (.map (some mb)) (.string s) (.int .i64 (c + 1))).run Try.prog w = .ok () w' ∧ MK mb (n + 1) (ks ++ [s.data.toList]) w' ∧ w.grownBy w' (some mb) := by
  obtain ⟨D, h1, h2, h3⟩ := h
  have hk : keyOf Try.prog 9 (.string s) = some (.string s.data.toList) := Go.WideMaps.keyOf_string_mk Try.underlying9 hs
  obtain ⟨c, hr, hat, hwc⟩ := h1.lookup_int keyS Try.underlying106 Try.underlying3 (zeroInt w) hk
  have hc := h3 _ _ hat
  have hwf : (Lit.int .i64 (c + 1)).wf = true := by simp [Lit.wf, IntKind.min, IntKind.max, IntKind.bits, IntKind.signed]; omega
  obtain ⟨w', hr', ho, hg⟩ := h1.update keyS Try.underlying106 (by unfold maxLen; omega) (val := .int .i64 (c + 1)) hk (plainElem_int Try.underlying3 hwf)
  obtain ⟨es, hD, hmm⟩ := h1.canon keyS
  have hD2 : IsMap D := ⟨es, hD⟩
  have hkl : WideAt.IsKeyLit (.string s.data.toList) := keyS.key hk
  refine ⟨c, hc, hr, w', hr', ⟨_, ho, fun k => ?_, fun k c' hc' => ?_⟩, hg⟩
  · by_cases e : k = .string s.data.toList
    · subst e
      rw [has_put_same hD2 hkl]
      simp
    · rw [has_put_other e, h2]
      constructor
      · rintro ⟨u, hu, rfl⟩; exact ⟨u, by simp [hu], rfl⟩
      · rintro ⟨u, hu, rfl⟩
        rcases List.mem_append.1 hu with hu | hu
        · exact ⟨u, hu, rfl⟩
        · rw [List.mem_singleton] at hu; subst hu; exact absurd rfl e
  · by_cases e : k = .string s.data.toList
    · subst e
      rw [atKey_put_same hD2 hkl] at hc'
      injection hc' with hc'
      injection hc' with _ hc'
      omega
    · rw [atKey_put_other e] at hc'
      have := h3 k c' hc'
      omega
theorem wpList_updS {w w' : World} {ops : Array Oper} {rest : List Oper} {o : Oper} {a : Act} {Q : Exit → Act → World → Prop} (hgd : o.guard = none) (m x v : Operand) (t : TypeId)
    (ho : o.op = Op.mapUpdate t m x v) (mv key val : Value) (hm : a.eval m = mv) (hx : a.eval x = key) (hv : a.eval v = val)
    (hr : (Instr.mapUpdate t mv key val).run Try.prog w = .ok () w') (h : wpList Try.prog ops Q rest (a.put o.dst undef) w') : wpList Try.prog ops Q (o :: rest) a w := by
  refine wpList_plain hgd fun K hK => ?_
  unfold Oper.wp
  simp [execOp, ho, hm, hx, hv, hr, Result.andThen]
  exact hK _ _ h
theorem own_size {P : Program} {k : TypeId} {R : Value → Option (DataW Unit × List MemPlace)} {w : World} {b n : Nat} {D : DataW Unit} (h : w.ownsMap P k R b n D) : Maps.size D ≤ n ∧ (strKeys D).length = Maps.size D := by
  obtain ⟨es, clock, _, _, hs, rfl⟩ := h
  refine ⟨?_, by simp [strKeys, size_eq]⟩
  rw [size_eq, length_sorted]
  simpa using hs
end Go.Proofs.Ytidldlhhmophjaa
namespace Go.Proofs.Ytidldlhhmophjaa
open Go.RowKit Go.PlainAid Go.Maps Go.WideShapes
set_option linter.unusedVariables false
set_option linter.unusedSimpArgs false
def kys (sn : ByteArray → Option Fx) (x : Xp) : List (List UInt8) := (x.mis sn).map (·.data.toList)
def kyss (sn : ByteArray → Option Fx) (l : List Xp) : List (List UInt8) := (Xp.mis.miss sn l).map (·.data.toList)
theorem kys_eq (sn : ByteArray → Option Fx) (x : Xp) : kys sn x = (if x.op = 3 ∧ (sn x.nm).isNone = true then [x.nm.data.toList] else []) ++ kyss sn x.args := by
  unfold kys kyss
  rw [x.mis_eq, List.map_append]
  split <;> rfl
theorem kyss_take {sn : ByteArray → Option Fx} {l : List Xp} {j : Nat} {x : Xp} (h : l[j]? = some x) : kyss sn (l.take (j + 1)) = kyss sn (l.take j) ++ kys sn x := by
  induction l generalizing j with
  | nil => simp at h
  | cons y t ih =>
    cases j with
    | zero => simp at h; subst h; simp [kyss, kys, Xp.mis.miss]
    | succ j => simp at h; have := ih h; simp [kyss, kys, Xp.mis.miss] at this ⊢; rw [this]
theorem pair_made (x0 x1 x2 x3 e0 e1 : Value) (w : World) : ∀ W, (w.alloc (.cells #[x0, x1, x2, x3] 34)).alloc (.cells #[e0, e1] 63) = W → W.heap[w.heap.size]? = some (.cells #[x0, x1, x2, x3] 34 (0, 0)) ∧ W.heap[w.heap.size + 1]? = some (.cells #[e0, e1] 63 (0, 0)) ∧ Below w.heap.size w W := by
  rintro W rfl
  obtain ⟨k1, b1, s1⟩ := four_boxed x0 x1 x2 x3 34 w _ rfl
  obtain ⟨k2, b2, s2⟩ := two_made e0 e1 63 (w.alloc (.cells #[x0, x1, x2, x3] 34)) _ rfl
  exact ⟨(k2.block _ (by omega)).trans b1, by rw [← s1]; exact b2, below_mono k1 k2 (Nat.le_refl _)⟩
theorem grown_of {w W : World} (h : Below w.heap.size w W) (row : Option Nat) : w.grownBy W row := ⟨h.os, h.tape, h.output, h.size, fun k hk _ => h.block k hk⟩
set_option maxRecDepth 100000 in
set_option maxHeartbeats 8000000 in
theorem need_any {S R : Nat → Prop} {B mb : Nat} (hS : ∀ b, S b → b < B ∧ b ≠ mb) (hR : ∀ b, R b → b < B ∧ b ≠ mb) {F : List Fx} {fa : Option Addr} {fc : Nat} {day : Int} (hF : F.length ≤ 200) (x : Xp) : ∀ (n : Nat) (ks : List (List UInt8)) (bo : Option Addr) (k : Nat) (w : World), B ≤ w.heap.size → MK mb n ks w → x.fit → x.args.length ≤ k → ExL S w x.args bo → FxA R fa F w → n + x.cnt ≤ 1000000 →
    Calls Try.prog 68 #[exV x bo k, .agg #[.int .i64 day, .slice fa F.length fc], .map (some mb)] w fun e w' => e = .returned (.tuple #[]) ∧ MK mb (n + x.cnt) (ks ++ kys (fun s => seenF day s F) x) w' ∧ w.grownBy w' (some mb) := by
  induction x using Xp.ind with
  | h x IH =>
  intro n ks bo k w hB h hf hk hx hfx hn
  have hc := x.cnt_eq
  obtain ⟨sn, hsn⟩ : ∃ v : ByteArray → Option Fx, v = fun s => seenF day s F := ⟨_, rfl⟩
  rw [← hsn] at IH ⊢
  have he := kys_eq sn x
  have hfe := (x.fit_eq).1 hf
  have hql := h.lt
  have HFX : Hid (∀ W, w.grownBy W (some mb) → FxA R fa F W) := Lib.hid fun W hW => hfx.stay (fun _ h => h) fun b hb => hW.block b (by have := (hR b hb).1; omega) (by intro e; cases e; exact (hR _ hb).2 rfl)
  have CSN : Hid (∀ s W, w.grownBy W (some mb) → Calls Try.prog 35 #[.agg #[.int .i64 day, .slice fa F.length fc], .string s] W fun e w' => e = .returned (.tuple #[.int .i64 (snV (seenF day s F)), .bool (snB (seenF day s F))]) ∧ Below W.heap.size W w') := Lib.hid fun s W h => seen_any day s W (HFX.out W h) hF fun b hb => Nat.lt_of_lt_of_le (by have := (hR b hb).1; omega) h.size
  obtain ⟨z, hz⟩ : ∃ z, z = w.heap.size := ⟨_, rfl⟩
  obtain ⟨l, hl⟩ : ∃ l, l = x.args := ⟨_, rfl⟩
  rw [← hl] at IH hk hx hc he hfe
  obtain ⟨m, hm⟩ : ∃ m, m = l.length := ⟨_, rfl⟩
  obtain ⟨xo, hxo⟩ : ∃ v, v = x.op := ⟨_, rfl⟩
  obtain ⟨xn, hxn⟩ : ∃ v, v = x.n := ⟨_, rfl⟩
  obtain ⟨xs, hxs⟩ : ∃ v, v = x.nm := ⟨_, rfl⟩
  obtain ⟨fm, hfm⟩ : ∃ v, v = F.length := ⟨_, rfl⟩
  rw [show exV x bo k = .agg #[.int .i64 xo, .int .i64 xn, .string xs, .slice bo m k] from by rw [hm, hl, hxo, hxn, hxs]]
  rw [← hxo, ← hxs] at he
  rw [← hxs] at hfe
  rw [← hfm] at CSN IH ⊢
  have hsx : seenF day xs F = sn xs := by rw [hsn]
  have CS1 := Lib.hid (CSN.out xs)
  rw [hsx] at CS1
  have GA : Hid (∀ W, (w.alloc (.cells #[.int .i64 xo, .int .i64 xn, .string xs, .slice bo m k] 34)).alloc (.cells #[.int .i64 day, .slice fa fm fc] 63) = W → MK mb n ks W ∧ W.heap[z]? = some (.cells #[.int .i64 xo, .int .i64 xn, .string xs, .slice bo m k] 34 (0, 0)) ∧ W.heap[z + 1]? = some (.cells #[.int .i64 day, .slice fa fm fc] 63 (0, 0)) ∧ w.grownBy W (some mb)) := Lib.hid (by
    intro W hW
    obtain ⟨p1, p2, p3⟩ := pair_made _ _ _ _ _ _ w W hW
    rw [hz]
    exact ⟨h.stay (p3.block mb hql), p1, p2, grown_of p3 _⟩)
  have HX : Hid (∀ W, w.grownBy W (some mb) → ExL S W l bo) := Lib.hid fun W hW => hx.stay (fun _ h => h) fun b hb => hW.block b (by have := (hS b hb).1; omega) (by intro e; cases e; exact (hS _ hb).2 rfl)
  have HI := Lib.hid IH
  have HFE := Lib.hid hfe
  have HE := Lib.hid he
  have HA := Lib.hid (And.intro hc (And.intro hn (And.intro hB hk)))
  have HM := Lib.hid hm
  have hm6 : m < 1000001 := by
    have := len_cnts l
    omega
  have HZM := Lib.hid (show mb < z from by omega)
  clear h hx IH hk hc he hn hl hm hql hxo hxn hxs hfe hf hB hfm hsn hsx CSN hfx
  go_enter Try.func68, Try.ntmps68
  go_upto_region 1 with fail
  obtain ⟨W, hW⟩ : ∃ X, (w.alloc (.cells #[.int .i64 xo, .int .i64 xn, .string xs, .slice bo m k] 34)).alloc (.cells #[.int .i64 day, .slice fa fm fc] 63) = X := ⟨_, rfl⟩
  rw [hW, ← hz]
  obtain ⟨m1, b1, b2, g1⟩ := GA.out W hW
  have HG := Lib.hid g1
  have HM1 := Lib.hid m1
  have HB1 := Lib.hid b1
  have HB2 := Lib.hid b2
  obtain ⟨c0, c1, c2, c3⟩ := quad b1
  obtain ⟨e0, e1⟩ := duo b2
  clear hW m1 b1 b2 g1 GA hz
  go_upto_if 12 with fail
  go_cut [] (fun wx => ∃ a : Nat, Hid (a ≤ 1 ∧ MK mb (n + a) (ks ++ (if xo = 3 ∧ (sn xs).isNone = true then [xs.data.toList] else [])) wx ∧ w.grownBy wx (some mb) ∧ wx.heap[z]? = W.heap[z]? ∧ wx.heap[z + 1]? = W.heap[z + 1]?))
  case first =>
    by_cases h3 : xo = 3
    · subst h3
      obtain ⟨sv, hsv⟩ : ∃ v, v = sn xs := ⟨_, rfl⟩
      rw [← hsv] at CS1
      have HSV := Lib.hid hsv.symm
      clear hsv
      cases sv with
      | some g =>
        have CS2 : Hid (∀ V, w.grownBy V (some mb) → Calls Try.prog 35 #[.agg #[.int .i64 day, .slice fa fm fc], .string xs] V fun e w' => e = .returned (.tuple #[.int .i64 g.val, .bool true]) ∧ Below V.heap.size V w') := CS1
        go_wp2_with (go_at_call 35; (with_reducible refine (CS2.out _ HG.out).mono ?_); rintro e w2 ⟨rfl, hb⟩; have HB3 := Lib.hid hb; clear hb)
        go_meet
        exact ⟨0, Lib.hid ⟨by omega, by rw [HSV.out]; simpa using HM1.out.stay (HB3.out.block mb HM1.out.lt), only_trans HG.out (grown_of HB3.out _), HB3.out.block z (lt_of_heap HB1.out), HB3.out.block (z + 1) (lt_of_heap HB2.out)⟩⟩
      | none =>
        have CS2 : Hid (∀ V, w.grownBy V (some mb) → Calls Try.prog 35 #[.agg #[.int .i64 day, .slice fa fm fc], .string xs] V fun e w' => e = .returned (.tuple #[.int .i64 0, .bool false]) ∧ Below V.heap.size V w') := CS1
        go_upto_region 4 with (go_at_call 35; (with_reducible refine (CS2.out _ HG.out).mono ?_); rintro e w2 ⟨rfl, hb⟩; have HB3 := Lib.hid hb; clear hb)
        clear c0 c1 c2 c3 e0 e1
        obtain ⟨c0, c1, c2, c3⟩ := quad ((HB3.out.block z (lt_of_heap HB1.out)).trans HB1.out)
        have HM2 := Lib.hid (HM1.out.stay (HB3.out.block mb HM1.out.lt))
        obtain ⟨c, ⟨hc0, hc1⟩, hlook, w3, hput, hmk, hgr⟩ := HM2.out.put (by have := HA.out; omega) xs HFE.out.1
        have HMK := Lib.hid hmk
        have HGR := Lib.hid hgr
        have hn6 : n ≤ 1000000 := by have := HA.out; omega
        have HZ3 : Hid (w3.heap[z]? = W.heap[z]? ∧ w3.heap[z + 1]? = W.heap[z + 1]?) := Lib.hid ⟨(hgr.block z (Nat.lt_of_lt_of_le (lt_of_heap HB1.out) HB3.out.size) (by intro e; cases e; exact Nat.lt_irrefl _ HZM.out)).trans (HB3.out.block z (lt_of_heap HB1.out)), (hgr.block (z + 1) (Nat.lt_of_lt_of_le (lt_of_heap HB2.out) HB3.out.size) (by intro e; have := HZM.out; injection e with e; omega)).trans (HB3.out.block (z + 1) (lt_of_heap HB2.out))⟩
        clear hmk hgr
        go_wp2_with (at_mapUpdate; refine wpList_updS rfl _ _ _ _ rfl _ _ _ rfl rfl rfl hput ?_)
        go_meet
        exact ⟨1, Lib.hid ⟨by omega, by rw [HSV.out]; simpa using HMK.out, only_trans HG.out (only_trans (grown_of HB3.out _) HGR.out), HZ3.out.1, HZ3.out.2⟩⟩
    · go_wp2_with fail
      go_meet
      exact ⟨0, Lib.hid ⟨by omega, by simpa [h3] using HM1.out, HG.out, rfl, rfl⟩⟩
  case rest =>
    obtain ⟨a, HCU⟩ := hcut
    clear c0 c1 c2 c3 e0 e1
    have c3 : wc.cell? ⟨z, 3, none⟩ = some (.slice bo m k) := cell_blk (HCU.out.2.2.2.1.trans HB1.out) 3
    obtain ⟨k0, hk0⟩ : ∃ v, v = ks ++ (if xo = 3 ∧ (sn xs).isNone = true then [xs.data.toList] else []) := ⟨_, rfl⟩
    rw [← hk0] at HCU
    have HK0 := Lib.hid hk0
    clear hk0
    go_upto_region 6 with fail
    clear c3
    go_loopw [30] (fun v wr => ∃ j : Nat, j ≤ m ∧ v = .int .i64 j ∧ Hid (MK mb (n + 1 + Xp.cnt.cnts (l.take j)) (k0 ++ kyss sn (l.take j)) wr ∧ w.grownBy wr (some mb) ∧ wr.heap[z + 1]? = some (.cells #[.int .i64 day, .slice fa fm fc] 63 (0, 0)))) (fun v _ => m - (intOf v).toNat)
    case atStart => exact ⟨0, by omega, rfl, Lib.hid ⟨by simpa [kyss, Xp.mis.miss, Xp.cnt.cnts] using HCU.out.2.1.mono (by have := HCU.out.1; omega), HCU.out.2.2.1, HCU.out.2.2.2.2.trans HB2.out⟩⟩
    case round =>
      obtain ⟨j, hj, rfl, HR⟩ := hrel
      by_cases hlt : j < m
      · obtain ⟨y, hy⟩ : ∃ y, l[j]? = some y := ⟨_, List.getElem?_eq_getElem (by rw [← HM.out]; exact hlt)⟩
        obtain ⟨a, co, ck, rfl, hsa, hck, ⟨y0, y1, y2, y3⟩, hyl⟩ := (HX.out wr HR.out.2.1).get hy
        have IHy := HI.out y (List.mem_of_getElem? hy)
        have hcj := cnts_take hy
        have hsj := kyss_take (sn := sn) hy
        have hle := cnts_le l (j + 1)
        have hfy := (xfits_all _).1 HFE.out.2 y (List.mem_of_getElem? hy)
        have CY : Hid (∀ W, wr.grownBy W (some mb) → MK mb (n + 1 + Xp.cnt.cnts (l.take j)) (k0 ++ kyss sn (l.take j)) W → Calls Try.prog 68 #[exV y co ck, .agg #[.int .i64 day, .slice fa fm fc], .map (some mb)] W fun e w' => e = .returned (.tuple #[]) ∧ MK mb (n + 1 + Xp.cnt.cnts (l.take (j + 1))) (k0 ++ kyss sn (l.take (j + 1))) w' ∧ W.grownBy w' (some mb)) := Lib.hid fun W hg hW => by
          have hA := HA.out
          have hszr := HR.out.2.1.size
          have := IHy (n + 1 + Xp.cnt.cnts (l.take j)) (k0 ++ kyss sn (l.take j)) co ck W (by have := hg.size; omega) hW hfy hck (hyl.stay (fun _ h => h) fun b hb => hg.block b (by have := (hS b hb).1; omega) (by intro e; cases e; exact (hS _ hb).2 rfl)) (HFX.out W (only_trans HR.out.2.1 hg)) (by omega)
          rw [show n + 1 + Xp.cnt.cnts (l.take j) + y.cnt = n + 1 + Xp.cnt.cnts (l.take (j + 1)) from by omega, List.append_assoc, ← hsj] at this
          exact this
        obtain ⟨cm, hcm⟩ : ∃ c, c = y.args.length := ⟨_, rfl⟩
        obtain ⟨yo, hyo⟩ : ∃ v, v = y.op := ⟨_, rfl⟩
        obtain ⟨yn, hyn⟩ : ∃ v, v = y.n := ⟨_, rfl⟩
        obtain ⟨ys, hys⟩ : ∃ v, v = y.nm := ⟨_, rfl⟩
        rw [← hcm] at y3
        rw [← hyo] at y0
        rw [← hyn] at y1
        rw [← hys] at y2
        have CY2 : Hid (∀ W, wr.grownBy W (some mb) → MK mb (n + 1 + Xp.cnt.cnts (l.take j)) (k0 ++ kyss sn (l.take j)) W → Calls Try.prog 68 #[.agg #[.int .i64 yo, .int .i64 yn, .string ys, .slice co cm ck], .agg #[.int .i64 day, .slice fa fm fc], .map (some mb)] W fun e w' => e = .returned (.tuple #[]) ∧ MK mb (n + 1 + Xp.cnt.cnts (l.take (j + 1))) (k0 ++ kyss sn (l.take (j + 1))) w' ∧ W.grownBy w' (some mb)) := by
          rw [hcm, hyo, hyn, hys]; exact CY
        obtain ⟨⟨r0, r1, r2, r3⟩, p0, p1, p2, p3⟩ := new_zero wr (.int .i64 0) (.int .i64 0) (.string ⟨#[]⟩) (.slice none 0 0) 34
        obtain ⟨u, hu⟩ : ∃ u, u = wr.heap.size := ⟨_, rfl⟩
        have j0 : (0 : Int) ≤ (j : Int) := by omega
        have j1 : (j : Int) < (m : Int) := by omega
        clear hcm hyo hyn hys hsa hck hyl hy CY IHy hcj hsj hle hfy
        go_upto_region 8 with fail
        clear r0 r1 r2 r3 p0 p1 p2 p3 y0 y1 y2 y3
        obtain ⟨W3, hW3⟩ : ∃ X, wr.alloc (.cells #[.int .i64 yo, .int .i64 yn, .string ys, .slice co cm ck] 34) = X := ⟨_, rfl⟩
        have HB3 := Lib.hid (made_box wr _ W3 hW3)
        have hb3 : W3.heap[wr.heap.size]? = some (.cells #[.int .i64 yo, .int .i64 yn, .string ys, .slice co cm ck] 34 (0, 0)) := by rw [← hW3]; exact heap_alloc_new _ _
        rw [hW3]
        obtain ⟨y0, y1, y2, y3⟩ := quad hb3
        rw [← hu] at y0 y1 y2 y3 ⊢
        clear hb3 hW3 hu
        have HM3 : Hid (MK mb (n + 1 + Xp.cnt.cnts (l.take j)) (k0 ++ kyss sn (l.take j)) W3) := Lib.hid (HR.out.1.stay (HB3.out.1.2.block mb HR.out.1.lt))
        have HE3 : Hid (W3.heap[z + 1]? = some (.cells #[.int .i64 day, .slice fa fm fc] 63 (0, 0))) := Lib.hid ((HB3.out.1.2.block (z + 1) (lt_of_heap HR.out.2.2)).trans HR.out.2.2)
        obtain ⟨e0, e1⟩ := duo HE3.out
        go_wp2_with (go_at_call 68; (with_reducible refine (CY2.out _ (HB3.out.2 mb) HM3.out).mono ?_); rintro e w4 ⟨rfl, h1, h2⟩; have HZ4 := Lib.hid (And.intro h1 (And.intro (only_trans HR.out.2.1 (only_trans (HB3.out.2 mb) h2)) ((h2.block (z + 1) (lt_of_heap HE3.out) (by intro e; have := HZM.out; injection e with e; omega)).trans HE3.out))); clear h1 h2)
        go_roundw
        case rel => exact ⟨j + 1, by omega, by go_num, HZ4⟩
        case measure => simp [intOf]; omega
      · obtain rfl : j = m := by omega
        have HF := HR.out
        rw [List.take_of_length_le (by rw [HM.out]; exact Nat.le_refl _)] at HF
        have HF2 := Lib.hid HF
        clear HF
        go_wp2_with fail
        go_end0
        have hA := HA.out
        refine ⟨rfl, ?_, HF2.out.2.1⟩
        rw [show n + x.cnt = n + 1 + Xp.cnt.cnts l from by omega, HE.out, ← List.append_assoc, ← HK0.out]
        exact HF2.out.1
end Go.Proofs.Ytidldlhhmophjaa
namespace Go.Proofs.Ytidldlhhmophjaa
open Go.RowKit Go.PlainAid Go.Maps Go.WideShapes
set_option linter.unusedVariables false
set_option linter.unusedSimpArgs false
theorem keys_of {D : DataW Unit} (hc : Canon D) {ks : List (List UInt8)} (h : ∀ k, Maps.has D k = true ↔ ∃ s ∈ ks, k = .string s) : (strKeys D).Nodup ∧ ∀ x, x ∈ strKeys D ↔ x ∈ ks := by
  obtain ⟨es, rfl, hp, hk⟩ := hc
  have hs : ∀ p ∈ es, ∃ s ∈ ks, p.1 = .string s := fun p hp' => (h p.1).1 (List.any_eq_true.2 ⟨p, hp', WideAt.sameKey_self (hk p hp')⟩)
  refine ⟨?_, fun x => ⟨fun hx => ?_, fun hx => ?_⟩⟩
  · show (es.map fun p => strOf p.1).Nodup
    unfold List.Nodup
    rw [List.pairwise_map]
    refine (apart_of_rising hp).imp_of_mem fun {p q} hp' hq' hne e => hne ?_
    obtain ⟨a, _, ha⟩ := hs p hp'
    obtain ⟨b, _, hb⟩ := hs q hq'
    rw [ha, hb] at e ⊢
    exact congrArg _ e
  · obtain ⟨p, hp', rfl⟩ := List.mem_map.1 hx
    obtain ⟨s, hs', e⟩ := hs p hp'
    rw [e]; exact hs'
  · obtain ⟨q, hq, e⟩ := List.any_eq_true.1 ((h (.string x)).2 ⟨x, hx, rfl⟩)
    have := WideAt.sameKey_eq e
    exact List.mem_map.2 ⟨q, hq, by first | (rw [this]; rfl) | (rw [← this]; rfl)⟩
theorem sort_rises {ss : List (List UInt8)} (h : ss.Nodup) : (ss.mergeSort leB).Pairwise (· < ·) ∧ ∀ x, x ∈ ss.mergeSort leB ↔ x ∈ ss := by
  have tr : ∀ a b c : List UInt8, leB a b = true → leB b c = true → leB a c = true := fun a b c h1 h2 => by simp only [leB, decide_eq_true_eq] at *; exact List.le_trans h1 h2
  have tot : ∀ a b : List UInt8, (leB a b || leB b a) = true := fun a b => by simp only [leB, Bool.or_eq_true, decide_eq_true_eq]; exact List.le_total a b
  have hperm := List.mergeSort_perm ss leB
  refine ⟨?_, fun x => hperm.mem_iff⟩
  have h1 := List.pairwise_mergeSort tr tot ss
  have h2 : (ss.mergeSort leB).Nodup := hperm.nodup_iff.2 h
  refine (h1.and h2).imp fun {a b} ⟨h3, h4⟩ => ?_
  simp only [leB, decide_eq_true_eq] at h3
  exact Std.lt_of_le_of_ne h3 h4
/-- What Needs gives: these names, rising. -/
def NeedsP (N : Nat) (ks : List (List UInt8)) (w : World) (e : Ending) (w' : World) : Prop := (∃ (a : Option Addr) (c : Nat) (rs : List (List UInt8)), e = .returned (.slice a rs.length c) ∧ rs.Pairwise (· < ·) ∧ (∀ x, x ∈ rs ↔ x ∈ ks) ∧ rs.length ≤ N ∧ w'.ownsRow w.heap.size 9 1 (.slice a rs.length c) rs.length (rs.map Go.Proofs.encStr)) ∧ Below w.heap.size w w'
theorem row_lower {w : World} {B B' : Nat} {e : TypeId} {k : Nat} {v : Value} {n : Nat} {xs : List Value} (h : w.ownsRow B e k v n xs) (hb : B' ≤ B) : w.ownsRow B' e k v n xs := ⟨h.1, h.2.imp id fun ⟨g, cap, cur, hv, hg, r⟩ => ⟨g, cap, cur, hv, Nat.le_trans hb hg, r⟩⟩
def Xp.nds (sn : ByteArray → Option Fx) (x : Xp) : List (List UInt8) := if x.rgt = true then kys sn x else []
theorem rgt_cnt {x : Xp} (h : x.rgt = true) : x.cnt ≤ 200 := by
  unfold Xp.rgt at h
  simp only [Bool.and_eq_true, decide_eq_true_eq] at h
  exact h.1.1
set_option maxRecDepth 100000 in
set_option maxHeartbeats 8000000 in
theorem needs_any {S R : Nat → Prop} (x : Xp) (bo : Option Addr) (k : Nat) (w : World) (hS : ∀ b, S b → b < w.heap.size) (hR : ∀ b, R b → b < w.heap.size) {F : List Fx} {fa : Option Addr} {fc : Nat} {day : Int} (hF : F.length ≤ 200) (hk : x.args.length ≤ k) (hx : ExL S w x.args bo) (hf : x.fit) (ht : x.thin) (hde : x.dep ≤ 900) (hfx : FxA R fa F w) :
    Calls Try.prog 44 #[exV x bo k, .agg #[.int .i64 day, .slice fa F.length fc]] w (NeedsP 200 (x.nds (fun s => seenF day s F)) w) := by
  have CR : Hid (∀ W, Below w.heap.size w W → Calls Try.prog 32 #[exV x bo k] W fun e w' => e = .returned (.bool x.rgt) ∧ Below W.heap.size W w') := Lib.hid fun W hW => rightX_any x bo k W (fun b hb => Nat.lt_of_lt_of_le (hS b hb) hW.size) hk (hx.stay (fun _ h => h) fun b hb => hW.block b (hS b hb)) hf ht hde
  have CM : Hid (∀ (mb : Nat) W, w.heap.size ≤ mb → Below w.heap.size w W → MK mb 0 [] W → x.rgt = true → Calls Try.prog 68 #[exV x bo k, .agg #[.int .i64 day, .slice fa F.length fc], .map (some mb)] W fun e w' => e = .returned (.tuple #[]) ∧ MK mb 200 (kys (fun s => seenF day s F) x) w' ∧ W.grownBy w' (some mb)) := Lib.hid fun mb W h1 hW h4 hr => by
    have := need_any (S := S) (R := R) (B := w.heap.size) (fun b hb => by have := hS b hb; omega) (fun b hb => by have := hR b hb; omega) (F := F) (fa := fa) (fc := fc) (day := day) hF x 0 [] bo k W hW.size h4 hf hk (hx.stay (fun _ h => h) fun b hb => hW.block b (hS b hb)) (hfx.stay (fun _ h => h) fun b hb => hW.block b (hR b hb)) (by have := rgt_cnt hr; omega)
    refine this.mono fun e w' ⟨h1, h2, h3⟩ => ⟨h1, ?_, h3⟩
    rw [List.nil_append] at h2
    exact h2.mono (by have := rgt_cnt hr; omega)
  have K1 := Lib.hid (fun (m : Nat) (W : World) => callsIn_wide.1 (Try.maps_Keys_70 (some m) W))
  have K2 := Lib.hid (fun (m nn : Nat) (D : DataW Unit) (W : World) (ho : W.ownsMap Try.prog 9 (plainElem Try.prog 3) m nn D) (h1 : Maps.size D ≤ 1000000) => callsIn_wide.1 (Try.slices_Sorted_keys_69_70 m nn D _ W ho (by unfold maxLen; omega) (by omega)))
  have hmm := @run_makeMap Try.prog
  obtain ⟨sn, hsn⟩ : ∃ v : ByteArray → Option Fx, v = fun s => seenF day s F := ⟨_, rfl⟩
  rw [← hsn] at CM ⊢
  have HND : Hid (x.nds sn = if x.rgt = true then kys sn x else []) := Lib.hid rfl
  obtain ⟨rg, hrg⟩ : ∃ v, v = x.rgt := ⟨_, rfl⟩
  rw [← hrg] at CR CM HND
  obtain ⟨nd, hnd⟩ : ∃ v, v = x.nds sn := ⟨_, rfl⟩
  rw [← hnd] at HND ⊢
  obtain ⟨kk, hkk⟩ : ∃ v, v = kys sn x := ⟨_, rfl⟩
  rw [← hkk] at CM HND
  obtain ⟨xo, hxo⟩ : ∃ v, v = x.op := ⟨_, rfl⟩
  obtain ⟨xn, hxn⟩ : ∃ v, v = x.n := ⟨_, rfl⟩
  obtain ⟨xs, hxs⟩ : ∃ v, v = x.nm := ⟨_, rfl⟩
  obtain ⟨m, hm⟩ : ∃ m, m = x.args.length := ⟨_, rfl⟩
  obtain ⟨fm, hfm⟩ : ∃ m, m = F.length := ⟨_, rfl⟩
  have hxe : exV x bo k = .agg #[.int .i64 xo, .int .i64 xn, .string xs, .slice bo m k] := by rw [hm, hxo, hxn, hxs]
  rw [hxe, ← hfm] at CM ⊢
  rw [hxe] at CR
  have GA := Lib.hid (pair_made (.int .i64 xo) (.int .i64 xn) (.string xs) (.slice bo m k) (.int .i64 day) (.slice fa fm fc) w)
  have GM : Hid (∀ W V, W.alloc (.map #[] 0) = V → MK W.heap.size 0 [] V ∧ Below W.heap.size W V) := Lib.hid (by
    rintro W V rfl
    exact ⟨MK.made W, (Below.refl _ _).alloc (Nat.le_refl _) _⟩)
  clear hx hf ht hde hk hfx hF hS hR hsn hrg hnd hkk hxo hxn hxs hm hfm hxe
  go_enter Try.func44, Try.ntmps44
  go_upto_region 1 with fail
  obtain ⟨z, hz⟩ : ∃ z, z = w.heap.size := ⟨_, rfl⟩
  obtain ⟨W, hW⟩ : ∃ X, (w.alloc (.cells #[.int .i64 xo, .int .i64 xn, .string xs, .slice bo m k] 34)).alloc (.cells #[.int .i64 day, .slice fa fm fc] 63) = X := ⟨_, rfl⟩
  obtain ⟨b1, b2, g1⟩ := GA.out W hW
  rw [hW, ← hz]
  rw [← hz] at b1 b2
  have HG := Lib.hid g1
  have HB1 := Lib.hid b1
  have HB2 := Lib.hid b2
  have HZ := Lib.hid hz
  obtain ⟨c0, c1, c2, c3⟩ := quad b1
  obtain ⟨e0, e1⟩ := duo b2
  clear hW b1 b2 g1 GA hz
  cases rg with
  | false =>
    go_wp2_with (go_at_call 32; (with_reducible refine (CR.out _ HG.out).mono ?_); rintro e w2 ⟨rfl, hb⟩; have HB3 := Lib.hid hb; clear hb c0 c1 c2 c3 e0 e1)
    refine bodyPost_ret (v := .slice none 0 0) (by simp [results, Try.results44, go_sem]) rfl ⟨⟨none, 0, [], rfl, List.Pairwise.nil, fun x => by rw [HND.out]; simp, by simp, World.ownsRow_nil _ _ _ 1⟩, below_mono HG.out HB3.out (Nat.le_refl _)⟩
  | true =>
    have CM1 := Lib.hid (fun mb V h1 h2 h3 => CM.out mb V h1 h2 h3 rfl)
    clear CM
    go_upto_region 4 with (go_at_call 32; (with_reducible refine (CR.out _ HG.out).mono ?_); rintro e w2 ⟨rfl, hb⟩; have HB3 := Lib.hid hb; clear hb c0 c1 c2 c3 e0 e1)
    obtain ⟨V, hV⟩ : ∃ x, w2.alloc (.map #[] 0) = x := ⟨_, rfl⟩
    obtain ⟨q1, q3⟩ := GM.out w2 V hV
    obtain ⟨mb, hmb⟩ : ∃ x, x = w2.heap.size := ⟨_, rfl⟩
    rw [← hmb] at q1
    rw [hV, ← hmb]
    have HW2 := Lib.hid (below_mono HG.out HB3.out (Nat.le_refl _))
    have HWV := Lib.hid (below_mono HW2.out q3 (Nat.le_refl _))
    have hq1 := (q3.block z (Nat.lt_of_lt_of_le (lt_of_heap HB1.out) HB3.out.size)).trans ((HB3.out.block z (lt_of_heap HB1.out)).trans HB1.out)
    have hq2 := (q3.block (z + 1) (Nat.lt_of_lt_of_le (lt_of_heap HB2.out) HB3.out.size)).trans ((HB3.out.block (z + 1) (lt_of_heap HB2.out)).trans HB2.out)
    obtain ⟨c0, c1, c2, c3⟩ := quad hq1
    obtain ⟨e0, e1⟩ := duo hq2
    have hm1 : w.heap.size ≤ mb := by have := HW2.out.size; omega
    have CM2 := Lib.hid (CM1.out mb V hm1 HWV.out q1)
    have HMB := Lib.hid hm1
    clear q1 q3 hV hmb hm1 hmm hq1 hq2
    go_upto_region 5 with (go_at_call 68; (with_reducible refine CM2.out.mono ?_); rintro e w5 ⟨rfl, h1, h3⟩; have HK1 := Lib.hid h1; have HG5 := Lib.hid h3; clear h1 h3 c0 c1 c2 c3 e0 e1)
    obtain ⟨D1, o1, o2, o3⟩ := HK1.out
    have HO1 := Lib.hid o1
    have HS1 := Lib.hid (own_size o1)
    have HKK := Lib.hid (keys_of (o1.canon keyS) o2)
    have HW5 : Hid (Below w.heap.size w w5) := Lib.hid (HWV.out.trans ⟨HG5.out.os, HG5.out.tape, HG5.out.output, HG5.out.size, fun b hb => HG5.out.block b (Nat.lt_of_lt_of_le hb HWV.out.size) (by intro e; injection e with e; have := HMB.out; omega)⟩)
    clear o1 o2 o3
    go_wp2_with fail
    refine (K1.out mb _).mono ?_
    rintro e w6 ⟨rfl, rfl⟩
    go_wp2_with fail
    refine (K2.out mb 200 D1 w5 HO1.out (by have := HS1.out.1; omega)).mono ?_
    rintro e w7 ⟨v, ss, rfl, hS, hrow, hnil, hb⟩
    obtain ⟨a, c, rfl⟩ := row_form hrow
    have hlen : ss.length = Maps.size D1 := by rw [hS.length_eq, HS1.out.2]
    have hsr := sort_rises ((hS.nodup_iff).2 HKK.out.1)
    obtain ⟨rs, hrs⟩ : ∃ rs, rs = ss.mergeSort leB := ⟨_, rfl⟩
    have hrl : rs.length = ss.length := by rw [hrs]; exact (List.mergeSort_perm ss leB).length_eq
    rw [← hrs] at hsr
    have hmem : ∀ x, x ∈ rs ↔ x ∈ kk := fun x => by rw [hsr.2, hS.mem_iff, HKK.out.2]
    have hl2 : rs.length ≤ 200 := by rw [hrl, hlen]; exact HS1.out.1
    rw [show (ss.mergeSort fun x y => decide (x ≤ y)) = rs from hrs.symm, ← hrl] at hrow
    rw [← hrl]
    have HROW := Lib.hid hrow
    have HRS := Lib.hid (And.intro hsr.1 (And.intro hmem hl2))
    have HB7 := Lib.hid (((Below.refl w5.heap.size w5).alloc (Nat.le_refl _) (.cells #[.map (some mb)] 106)).trans (hb.mono (by simp)))
    clear hS hrow hnil hb hlen hsr hrs hrl hmem hl2
    obtain ⟨n1, hn1⟩ : ∃ n, n = rs.length := ⟨_, rfl⟩
    rw [← hn1]
    rw [← hn1] at HROW
    have HN1 := Lib.hid hn1
    clear hn1
    go_wp2_with fail
    go_ret
    refine ⟨⟨a, c, rs, by rw [HN1.out]; rfl, HRS.out.1, fun x => by rw [HND.out]; exact HRS.out.2.1 x, HRS.out.2.2, by rw [← HN1.out]; exact row_lower HROW.out (by have := HW5.out.size; simp; omega)⟩, below_mono HW5.out HB7.out (Nat.le_refl _)⟩
end Go.Proofs.Ytidldlhhmophjaa
