/- Trees: the document's Build. Conditions: those written at each theorem. -/
import Derived.Test.YthhimllddgfddaaTrV
import Derived.Deep.RegionLaw
import Derived.Deep.CutBlock
namespace Go.Proofs.Ythhimllddgfddaa
open Go.RowKit Go.PlainAid
set_option linter.unusedVariables false
set_option linter.unusedSimpArgs false
/-- append(l, e), of an expression in a new block. -/
theorem step_appX {w : World} {ops : Array Oper} {o : Oper} {a : Act} {K : Act → World → Prop} {Q : Exit → Act → World → Prop} {E : Prop} (hgd : o.guard = none) (s x : Operand)
    (ho : o.op = .call { callee := .builtin .append, args := #[s, x], argTypes := #[29, 29] })
    (B : Nat) (v : Value) (qs : List Q4) (hs : a.eval s = v) (hown : Row4 w B 53 v qs) (g : Nat) (i0 i1 : Int) (t1 : ByteArray) (a3 : Option Addr) (n3 m3 : Nat) (hx : a.eval x = .slice (some ⟨g, 0, none⟩) 1 1)
    (hc : w.heap[g]? = some (.cells #[.int .i64 i0, .int .i64 i1, .string t1, .slice a3 n3 m3] 53 (0, 0))) (hl : qs.length ≤ 1000) (hB : B ≤ w.heap.size)
    (h : ∀ g' cap w', Row4 w' B 53 (.slice (some ⟨g', 0, none⟩) (qs.length + 1) cap) (qs ++ [(.int .i64 i0, .int .i64 i1, .string t1, .slice a3 n3 m3)]) → w.grownBy w' v.ownBlock → (v.ownBlock = some g' ∨ g' = w.heap.size) → g' < w'.heap.size → K (a.put o.dst (.slice (some ⟨g', 0, none⟩) (qs.length + 1) cap)) w') :
    if Region.wanted o (yielded ops a.tmps) = true then Oper.wp Try.prog o a w K Q else E := by
  obtain ⟨i, hi, hz0, hz1, hz2⟩ := info_parts exprInfo
  refine step_append_lies w hgd s x 29 ho B 53 i (.agg #[.int .i64 0, .int .i64 0, .string ⟨#[]⟩, .slice none 0 0]) 4 56 Try.underlying29 hi hz0 hz1 hz2 rfl (by decide) v qs.length (flat4 qs) hs hown ⟨g, 0, none⟩ 1 1 [.int .i64 i0, .int .i64 i1, .string t1, .slice a3 n3 m3] hx rfl ?_ ?_ (by decide) ?_ ?_ hB _ rfl ?_
  · intro j u hj
    match j, hj with
    | 0, hj => simp at hj; subst hj; exact cell_blk hc 0
    | 1, hj => simp at hj; subst hj; exact cell_blk hc 1
    | 2, hj => simp at hj; subst hj; exact cell_blk hc 2
    | 3, hj => simp at hj; subst hj; exact cell_blk hc 3
  · intro u hu
    simp at hu
    rcases hu with rfl | rfl | rfl | rfl <;> rfl
  · unfold maxLen; omega
  · omega
  · intro g' cap w' h1 h2 h3 h4
    refine h g' cap w' ?_ h2 h3 h4
    unfold Row4
    rw [flat4_snoc, List.length_append]
    exact h1
/-- append(l, t), of a term in a new block. -/
theorem step_appR {w : World} {ops : Array Oper} {o : Oper} {a : Act} {K : Act → World → Prop} {Q : Exit → Act → World → Prop} {E : Prop} (hgd : o.guard = none) (s x : Operand)
    (ho : o.op = .call { callee := .builtin .append, args := #[s, x], argTypes := #[30, 30] })
    (B : Nat) (v : Value) (qs : List Q4) (hs : a.eval s = v) (hown : Row4 w B 32 v qs) (g : Nat) (i0 : Int) (t1 : ByteArray) (a2 a3 : Option Addr) (n2 m2 n3 m3 : Nat) (hx : a.eval x = .slice (some ⟨g, 0, none⟩) 1 1)
    (hc : w.heap[g]? = some (.cells #[.int .i64 i0, .string t1, .slice a2 n2 m2, .slice a3 n3 m3] 32 (0, 0))) (hl : qs.length ≤ 1000) (hB : B ≤ w.heap.size)
    (h : ∀ g' cap w', Row4 w' B 32 (.slice (some ⟨g', 0, none⟩) (qs.length + 1) cap) (qs ++ [(.int .i64 i0, .string t1, .slice a2 n2 m2, .slice a3 n3 m3)]) → w.grownBy w' v.ownBlock → (v.ownBlock = some g' ∨ g' = w.heap.size) → g' < w'.heap.size → K (a.put o.dst (.slice (some ⟨g', 0, none⟩) (qs.length + 1) cap)) w') :
    if Region.wanted o (yielded ops a.tmps) = true then Oper.wp Try.prog o a w K Q else E := by
  obtain ⟨i, hi, hz0, hz1, hz2⟩ := info_parts termInfo
  refine step_append_lies w hgd s x 30 ho B 32 i (.agg #[.int .i64 0, .string ⟨#[]⟩, .slice none 0 0, .slice none 0 0]) 4 72 Try.underlying30 hi hz0 hz1 hz2 rfl (by decide) v qs.length (flat4 qs) hs hown ⟨g, 0, none⟩ 1 1 [.int .i64 i0, .string t1, .slice a2 n2 m2, .slice a3 n3 m3] hx rfl ?_ ?_ (by decide) ?_ ?_ hB _ rfl ?_
  · intro j u hj
    match j, hj with
    | 0, hj => simp at hj; subst hj; exact cell_blk hc 0
    | 1, hj => simp at hj; subst hj; exact cell_blk hc 1
    | 2, hj => simp at hj; subst hj; exact cell_blk hc 2
    | 3, hj => simp at hj; subst hj; exact cell_blk hc 3
  · intro u hu
    simp at hu
    rcases hu with rfl | rfl | rfl | rfl <;> rfl
  · unfold maxLen; omega
  · omega
  · intro g' cap w' h1 h2 h3 h4
    refine h g' cap w' ?_ h2 h3 h4
    unfold Row4
    rw [flat4_snoc, List.length_append]
    exact h1

theorem grown_rowT {W A C : World} {q : Nat} {row : Option Nat} (hA : W.grownBy A (some q)) (hC : A.grownBy C row) (h : ∀ g, row = some g → W.heap.size ≤ g) : W.grownBy C (some q) :=
  ⟨hC.os.trans hA.os, hC.tape.trans hA.tape, hC.output.trans hA.output, Nat.le_trans hA.size hC.size, fun k hk hne => (hC.block k (Nat.lt_of_lt_of_le hk hA.size) (fun e => by have := h k e.symm; omega)).trans (hA.block k hk hne)⟩
theorem add_atT (g k : Nat) : (⟨g, 0, none⟩ : Addr).add k = ⟨g, k, none⟩ := by unfold Addr.add; split <;> simp_all
/-- An element of a row of numbers. -/
theorem nvs_cell {w : World} {B n : Nat} {T : TypeId} {v : Value} {l : List Nat} (h : w.ownsRow B T 1 v n (nvs l)) {j x : Nat} (hx : l[j]? = some x) : ∃ g c, v = .slice (some ⟨g, 0, none⟩) n c ∧ w.cell? ⟨g, j, none⟩ = some (.int .i64 x) := by
  have hj := (List.getElem?_eq_some_iff.1 hx).1
  have hl := h.1
  have hv : (nvs l)[j]? = some (.int .i64 x) := by simp [nvs, hx]
  rcases h.2 with ⟨rfl, h0⟩ | ⟨g, cap, cur, rfl, hb, hg, hc, hm, hsz, htk⟩
  · simp [nvs] at hl
    omega
  · refine ⟨g, cap, rfl, ?_⟩
    rw [cell_blk hg, ← Array.getElem?_toList, ← hv, ← htk, List.getElem?_take, if_pos]
    simp [nvs] at hl
    omega
theorem nSX_le (l : List Xp) : nSX l ≤ 1000 * l.length := by
  induction l with
  | nil => simp [nSX]
  | cons x t ih =>
    have h := tX_in x
    have e : nSX (x :: t) = x.tN + nSX t := by simp [nSX]
    rw [e, List.length_cons]
    omega
theorem nST_le (l : List Tr) : nST l ≤ 1000 * l.length := by
  induction l with
  | nil => simp [nST]
  | cons x t ih =>
    have h := tT_in x
    have e : nST (x :: t) = x.tN + nST t := by simp [nST]
    rw [e, List.length_cons]
    omega
theorem tree0 : Try.prog.cellsOf 58 = 6 := by kernel_rfl
abbrev T0 : Array Value := #[.slice none 0 0, .slice none 0 0, .slice none 0 0, .slice none 0 0, .slice none 0 0, .slice none 0 0]
theorem pb_start {W0 : World} {tb : Nat} (hb : W0.heap[tb]? = some (.cells T0 58 (0, 0))) : PB W0 tb ⟨fun _ => False, [], [], [], [], [], []⟩ [.slice none 0 0, .slice none 0 0, .slice none 0 0, .slice none 0 0, .slice none 0 0, .slice none 0 0] W0 := by
  have hnil : ∀ v ∈ ([.slice none 0 0, .slice none 0 0, .slice none 0 0, .slice none 0 0, .slice none 0 0, .slice none 0 0] : List Value), v = .slice none 0 0 := by
    intro v hv
    simp at hv
    exact hv
  refine ⟨hb, fun i v hv => ?_, fun b h => h.elim, fun v hv g hg => ?_, fun i j a b g ha hb hij hga => ?_, World.grownBy.refl W0 _, lt_of_heap hb⟩
  · obtain rfl := hnil v (List.mem_of_getElem? hv)
    unfold RB
    split
    · exact ⟨[], rfl, Row4.nil _ _ _, Fits.nil _⟩
    · exact World.ownsRow_nil W0 _ _ 1
    · exact World.ownsRow_nil W0 _ _ 1
    · exact ⟨[], rfl, Row4.nil _ _ _, Fits.nil _⟩
    · exact World.ownsRow_nil W0 _ _ 1
    · exact World.ownsRow_nil W0 _ _ 1
  · obtain rfl := hnil v hv
    cases hg
  · obtain rfl := hnil a (List.mem_of_getElem? ha)
    cases hga
/-- Two boxes of two types. -/
theorem two_box0 (x0 x1 x2 x3 y0 y1 y2 y3 : Value) (T U : TypeId) (w : World) : ∀ W, (w.alloc (.cells #[x0, x1, x2, x3] T)).alloc (.cells #[y0, y1, y2, y3] U) = W → W.heap[w.heap.size]? = some (.cells #[x0, x1, x2, x3] T (0, 0)) ∧ W.heap[w.heap.size + 1]? = some (.cells #[y0, y1, y2, y3] U (0, 0)) ∧ Below w.heap.size w W := by
  rintro W rfl
  have h1 : (w.alloc (.cells #[x0, x1, x2, x3] T)).heap.size = w.heap.size + 1 := by simp
  refine ⟨?_, ?_, ((Below.refl w.heap.size w).alloc (Nat.le_refl _) _).alloc (by omega) _⟩
  · exact (((Below.refl _ _).alloc (Nat.le_refl _) _).block w.heap.size (by omega)).trans (heap_alloc_new w _)
  · rw [← h1]; exact heap_alloc_new _ _
set_option maxRecDepth 100000 in
set_option maxHeartbeats 16000000 in
theorem rbuild_any {ls : List Lf} {ks : List Kn} {ao co : Option Addr} {cap kap : Nat} (w : World) (hl : LfAt w.heap.size ao ls w) (hk : KnAt w.heap.size co ks w) (hln : ls.length ≤ 60) (hkn : ks.length ≤ 60) :
    Calls Try.prog 16 #[.slice ao ls.length cap, .slice co ks.length kap] w (BuildP w (bXs ls) (bTs (bXs ls) ks)) := by
  obtain ⟨n, hn⟩ : ∃ n, n = ls.length := ⟨_, rfl⟩
  obtain ⟨m, hm⟩ : ∃ n, n = ks.length := ⟨_, rfl⟩
  have HN := Lib.hid hn
  have HM := Lib.hid hm
  rw [← hn] at hln ⊢
  rw [← hm] at hkn ⊢
  have HL : Hid (∀ W, Below w.heap.size w W → LfAt w.heap.size ao ls W) := Lib.hid fun W hW => hl.under hW
  have HK : Hid (∀ W, Below w.heap.size w W → KnAt w.heap.size co ks W) := Lib.hid fun W hW => hk.under hW
  have HM0 : Hid (∀ W, (w.alloc (.cells T0 58)).alloc (.cells T0 58) = W → Below w.heap.size w W ∧ W.heap[w.heap.size]? = some (.cells T0 58 (0, 0)) ∧ W.heap[w.heap.size + 1]? = some (.cells T0 58 (0, 0))) := Lib.hid (by
    rintro W rfl
    have h1 : (w.alloc (.cells T0 58)).heap.size = w.heap.size + 1 := by simp
    refine ⟨((Below.refl w.heap.size w).alloc (Nat.le_refl _) _).alloc (by omega) _, ?_, ?_⟩
    · exact (((Below.refl _ _).alloc (Nat.le_refl _) _).block w.heap.size (by omega)).trans (heap_alloc_new w _)
    · rw [← h1]; exact heap_alloc_new _ _)
  clear hl hk hn hm
  go_enter Try.func16, Try.ntmps16
  go_upto_block 0 with fail
  obtain ⟨W0, hW⟩ : ∃ X, (w.alloc (.cells T0 58)).alloc (.cells T0 58) = X := ⟨_, rfl⟩
  obtain ⟨g1, b1, b2⟩ := HM0.out W0 hW
  obtain ⟨rb, hrb⟩ : ∃ z, z = w.heap.size := ⟨_, rfl⟩
  obtain ⟨tb, htb⟩ : ∃ z, z = w.heap.size + 1 := ⟨_, rfl⟩
  rw [← hrb] at b1
  rw [← htb] at b2
  rw [hW, ← hrb, show rb + 1 = tb from by omega]
  have HG := Lib.hid g1
  have HB1 := Lib.hid b1
  have HZ := Lib.hid (show rb = w.heap.size ∧ tb = w.heap.size + 1 by omega)
  have P0 := Lib.hid (pb_start b2)
  clear hW g1 b1 b2 HM0 hrb htb
  go_cut [] (fun wx => ∃ (S : Nat → Prop) (v0 v1 v2 : Value), Hid (PB W0 tb ⟨S, bXs ls, (bXs ls).map Xp.tN, (bXs ls).map Xp.tD, [], [], []⟩ [v0, v1, v2, .slice none 0 0, .slice none 0 0, .slice none 0 0] wx))
  case first =>
    as_aux_lemma =>
      go_upto_region 3 with fail
      go_loopw [6] (fun v wr => ∃ (i : Nat) (S : Nat → Prop) (v0 v1 v2 : Value), i ≤ n ∧ v = .int .i64 i ∧ Hid (PB W0 tb ⟨S, bXs (ls.take i), (bXs (ls.take i)).map Xp.tN, (bXs (ls.take i)).map Xp.tD, [], [], []⟩ [v0, v1, v2, .slice none 0 0, .slice none 0 0, .slice none 0 0] wr)) (fun v _ => n - (intOf v).toNat)
      case atStart => exact ⟨0, _, _, _, _, by omega, rfl, P0⟩
      case round =>
        obtain ⟨i, S, v0, v1, v2, hi, rfl, HP⟩ := hrel
        have HBW : Hid (Below w.heap.size w wr) := Lib.hid (HG.out.grown HP.out.bel HG.out.size (fun g hg => by cases hg; have := HZ.out; omega))
        by_cases hlt : i < n
        · obtain ⟨f, hf⟩ : ∃ f, ls[i]? = some f := ⟨_, List.getElem?_eq_getElem (by rw [← HN.out]; exact hlt)⟩
          obtain ⟨a, rfl⟩ := (HL.out wr HBW.out).there (by rw [← HN.out]; omega)
          obtain ⟨bo, kc, hkc1, hkc2, ⟨y0, y1, y2, y3⟩, hkv⟩ := ((HL.out wr HBW.out).cells a rfl (by rw [← HN.out]; omega)).2 i f hf
          have hXS := bXs_take hf
          have hXL := bXs_len ls i (by rw [← HN.out]; exact hi)
          obtain ⟨xs, hxs⟩ : ∃ xs, xs = bXs (ls.take i) := ⟨_, rfl⟩
          rw [← hxs] at hXS hXL HP
          have HXS := Lib.hid hXS
          have HXL := Lib.hid hXL
          obtain ⟨fo, fn, fs, fk⟩ := f
          dsimp only at y0 y1 y2 y3 hkc1 hkv
          obtain ⟨kn, hkn2⟩ : ∃ k, k = fk.length := ⟨_, rfl⟩
          rw [← hkn2] at y3 hkc1
          have HKN := Lib.hid hkn2
          have HKV : Hid (∀ W, Below wr.heap.size wr W → VAt w.heap.size bo (ivs fk) W) := Lib.hid fun W hW => hkv.under (hW.mono HBW.out.size)
          have HBX := Lib.hid (two_box0 (.int .i64 fo) (.int .i64 fn) (.string fs) (.slice bo kn kc) (.int .i64 fo) (.int .i64 fn) (.string fs) (.slice none 0 0) 82 53 wr)
          have i0 : (i : Int) < (n : Int) := by omega
          have i1 : (i : Int) < 60 := by omega
          have i2 : (0 : Int) ≤ (i : Int) := by omega
          obtain ⟨⟨r0, r1, r2, r3⟩, p0, p1, p2, p3⟩ := new_zero wr (.int .i64 0) (.int .i64 0) (.string ⟨#[]⟩) (.slice none 0 0) 82
          clear hf hXS hXL hxs hkn2 hkv hkc1 hkc2
          go_upto_region 6 with fail
          clear r0 r1 r2 r3 p0 p1 p2 p3 y0 y1 y2 y3
          obtain ⟨c0, c1, c2, c3⟩ := quad (heap_alloc_new wr (.cells #[.int .i64 fo, .int .i64 fn, .string fs, .slice bo kn kc] 82))
          go_upto_region 7 with fail
          clear c0 c1 c2 c3
          obtain ⟨W2, hW2⟩ : ∃ X, (wr.alloc (.cells #[.int .i64 fo, .int .i64 fn, .string fs, .slice bo kn kc] 82)).alloc (.cells #[.int .i64 fo, .int .i64 fn, .string fs, .slice none 0 0] 53) = X := ⟨_, rfl⟩
          obtain ⟨b1, b2, g2⟩ := HBX.out W2 hW2
          obtain ⟨xb, hxb⟩ : ∃ z, z = wr.heap.size := ⟨_, rfl⟩
          obtain ⟨eb, heb⟩ : ∃ z, z = wr.heap.size + 1 := ⟨_, rfl⟩
          rw [← hxb] at b1
          rw [← heb] at b2
          rw [hW2, ← hxb, show xb + 1 = eb from by omega]
          have HG2 := Lib.hid g2
          have HXB := Lib.hid b1
          have HEB := Lib.hid b2
          have HZ2 := Lib.hid (show xb = wr.heap.size ∧ eb = wr.heap.size + 1 ∧ eb < W2.heap.size from ⟨hxb, heb, lt_of_heap b2⟩)
          have HP2 := Lib.hid (HP.out.next g2)
          clear hW2 b1 b2 g2 HBX hxb heb
          go_upto_block 2 with fail
          go_cut [9, 10] (fun nv dv wi => ∃ (ys : List Xp) (va : Option Addr) (vc : Nat) (qs : List Q4), nv = .int .i64 (1 + nSX ys : Nat) ∧ dv = .int .i64 (1 + dSX ys : Nat) ∧ Hid (ys = pick xs (fk.take 5) ∧ qs.length = ys.length ∧ ys.length ≤ 5) ∧ Hid (Row4 wi W2.heap.size 53 (.slice va ys.length vc) qs ∧ Fits (QX S wi) ys qs) ∧ Hid (W2.grownBy wi (some eb) ∧ wi.heap[eb]? = some (.cells #[.int .i64 fo, .int .i64 fn, .string fs, .slice va ys.length vc] 53 (0, 0))))
          case first =>
            as_aux_lemma =>
              go_upto_region 9 with fail
              go_loopw [9, 10, 11] (fun nv dv kv wi => ∃ (k : Nat) (ys : List Xp) (va : Option Addr) (vc : Nat) (qs : List Q4), (k ≤ kn ∧ k ≤ 5) ∧ kv = .int .i64 k ∧ nv = .int .i64 (1 + nSX ys : Nat) ∧ dv = .int .i64 (1 + dSX ys : Nat) ∧ Hid (ys = pick xs (fk.take k) ∧ qs.length = ys.length ∧ ys.length ≤ k) ∧ Hid (Row4 wi W2.heap.size 53 (.slice va ys.length vc) qs ∧ Fits (QX S wi) ys qs) ∧ Hid (W2.grownBy wi (some eb) ∧ wi.heap[eb]? = some (.cells #[.int .i64 fo, .int .i64 fn, .string fs, .slice va ys.length vc] 53 (0, 0)))) (fun _ _ kv _ => 5 - (intOf kv).toNat)
              case atStart => exact ⟨0, [], none, 0, [], ⟨by omega, by omega⟩, rfl, rfl, rfl, Lib.hid ⟨by rw [List.take_zero, pick_nil], rfl, by simp⟩, Lib.hid ⟨Row4.nil _ _ _, Fits.nil _⟩, Lib.hid ⟨World.grownBy.refl W2 _, HEB.out⟩⟩
              case round =>
                obtain ⟨k, ys, va, vc, qs, ⟨hk1, hk2⟩, rfl, rfl, rfl, HY, HR, HB⟩ := hrel
                have HBI := Lib.hid (HG2.out.grown HB.out.1 HG2.out.size (fun g hg => by cases hg; have := HZ2.out; omega))
                have HPI := Lib.hid (HP.out.next HBI.out)
                have e3 : wr.cell? ⟨xb, 3, none⟩ = some (.slice bo kn kc) := cell_blk ((HB.out.1.block xb (lt_of_heap HXB.out) (by intro e; cases e; have := HZ2.out; omega)).trans HXB.out) 3
                have hyl : ys.length ≤ 5 := by have := HY.out.2.2; omega
                by_cases hkk : k < kn
                · by_cases hk5 : k < 5
                  · obtain ⟨κ, hκ⟩ : ∃ κ, fk[k]? = some κ := ⟨_, List.getElem?_eq_getElem (by rw [← HKN.out]; exact hkk)⟩
                    obtain ⟨b, rfl⟩ := (HKV.out wr HBI.out).there (by simp [ivs, ← HKN.out]; omega)
                    have hkc := ((HKV.out wr HBI.out).cells b rfl (by simp [ivs, ← HKN.out]; omega)).2 k (.int .i64 κ) (by rw [ivs, List.getElem?_map, hκ]; rfl)
                    have HTK : Hid (fk.take (k + 1) = fk.take k ++ [κ]) := Lib.hid (by rw [List.take_add_one, hκ]; rfl)
                    have CE := Lib.hid (earlier_any κ i (by omega))
                    have k0 : (0 : Int) ≤ (k : Int) := by omega
                    have k1 : (k : Int) < (kn : Int) := by omega
                    have k2 : (k : Int) < 5 := by omega
                    clear hκ
                    by_cases hi0 : i = 0
                    · subst hi0
                      have HPK : Hid (ys = pick xs (fk.take (k + 1))) := Lib.hid (by
                        obtain rfl : xs = [] := List.length_eq_zero_iff.1 HXL.out
                        rw [HY.out.1, pick_empty, pick_empty])
                      have CE0 : Hid (∀ w, Calls Try.prog 29 #[.int .i64 κ, .int .i64 0] w fun e w' => e = .returned (.int .i64 (-1)) ∧ w' = w) := Lib.hid fun w => earlier_any κ 0 (by omega) w
                      go_wp2_with (go_at_call 29; (with_reducible refine (CE0.out _).mono ?_); rintro e w4 ⟨rfl, rfl⟩)
                      refine ⟨?_, ?measure⟩
                      apply Exists.intro
                      apply Exists.intro
                      (repeat apply Exists.intro)
                      refine ⟨?rel, rfl⟩
                      case rel => exact ⟨k + 1, ys, va, vc, qs, ⟨by omega, by omega⟩, by go_num, rfl, rfl, Lib.hid ⟨HPK.out, HY.out.2.1, by have := HY.out.2.2; omega⟩, HR, HB⟩
                      case measure => simp [intOf]; omega
                    · have hjl := earl_lt (k := κ) (n := i) (by omega)
                      rw [if_neg hi0] at CE
                      obtain ⟨j, hj⟩ : ∃ j, j = earl κ i := ⟨_, rfl⟩
                      rw [← hj] at CE hjl
                      obtain ⟨xj, hxj⟩ : ∃ x, xs[j]? = some x := ⟨_, List.getElem?_eq_getElem (by rw [HXL.out]; exact hjl)⟩
                      have HPK : Hid (ys ++ [xj] = pick xs (fk.take (k + 1))) := Lib.hid (by rw [HTK.out, pick_snoc (x := xj) _ _ (by rw [HXL.out]; omega) (by rw [HXL.out, ← hj]; exact hxj), HY.out.1])
                      obtain ⟨qs0, hq0, hr0, hf0⟩ := HPI.out.row 0 v0 rfl
                      obtain ⟨qj, hqj, bo2, kj, rfl, hkj, hex⟩ := hf0.get hxj
                      obtain ⟨xo, hxo⟩ : ∃ v, v = xj.op := ⟨_, rfl⟩
                      obtain ⟨xn, hxn⟩ : ∃ v, v = xj.n := ⟨_, rfl⟩
                      obtain ⟨xs2, hxs2⟩ : ∃ v, v = xj.nm := ⟨_, rfl⟩
                      obtain ⟨xl, hxl⟩ : ∃ v, v = xj.args.length := ⟨_, rfl⟩
                      have HEX : Hid (QX S wr xj (.int .i64 xo, .int .i64 xn, .string xs2, .slice bo2 xl kj)) := Lib.hid ⟨bo2, kj, by rw [hxo, hxn, hxs2, hxl], hkj, hex⟩
                      rw [← hxo, ← hxn, ← hxs2, ← hxl] at hqj
                      obtain ⟨a0, c0, hv0, hc0⟩ := hr0.form
                      subst hv0
                      obtain ⟨g0, rfl, hg0, hg0b, y0, y1, y2, y3⟩ := hr0.get hqj
                      rw [hq0, show (⟨S, xs, xs.map Xp.tN, xs.map Xp.tD, [], [], []⟩ : DB).xs.length = i from HXL.out] at hc0
                      have t0 : wr.cell? ⟨tb, 0, none⟩ = some (.slice (some ⟨g0, 0, none⟩) i c0) := by
                        have := cell_blk HPI.out.box 0
                        rw [this, ← HXL.out, hq0]
                        rfl
                      have e0 : wr.cell? ⟨eb, 3, none⟩ = some (.slice va ys.length vc) := cell_blk HB.out.2 3
                      have f0 : wr.frozen? ⟨eb, 3, none⟩ = false := free_blk HB.out.2 3
                      have HQL := Lib.hid HY.out.2.1
                      have HBX := Lib.hid HB.out.2
                      have j0 : (0 : Int) ≤ (j : Int) := by omega
                      have j1 : (j : Int) < (i : Int) := by omega
                      dsimp only at y0 y1 y2 y3
                      have hadd := add_atT g0 (j * 4)
                      rw [hadd] at y0 y1 y2 y3
                      dsimp only at y1 y2 y3
                      clear hj hadd hq0 hr0 hf0 hqj hkj hex hxo hxn hxs2 hxl hg0 hg0b hc0
                      go_upto_region 13 with (go_at_call 29; (with_reducible refine (CE.out _).mono ?_); rintro e w4 ⟨rfl, rfl⟩)
                      go_cut [] (fun wx => ∃ (g' cap' : Nat), Hid (Row4 wx W2.heap.size 53 (.slice (some ⟨g', 0, none⟩) (ys.length + 1) cap') (qs ++ [(.int .i64 xo, .int .i64 xn, .string xs2, .slice bo2 xl kj)]) ∧ Fits (QX S wx) (ys ++ [xj]) (qs ++ [(.int .i64 xo, .int .i64 xn, .string xs2, .slice bo2 xl kj)])) ∧ Hid (W2.grownBy wx (some eb) ∧ wx.heap[eb]? = some (.cells #[.int .i64 fo, .int .i64 fn, .string fs, .slice (some ⟨g', 0, none⟩) (ys.length + 1) cap'] 53 (0, 0))))
                      case first =>
                        as_aux_lemma =>
                          have HA4 := Lib.hid ((Below.refl w4.heap.size w4).alloc (Nat.le_refl _) (.cells #[.int .i64 xo, .int .i64 xn, .string xs2, .slice bo2 xl kj] 53))
                          have H4A : Hid ((w4.alloc (.cells #[.int .i64 xo, .int .i64 xn, .string xs2, .slice bo2 xl kj] 53)).drew.heap[w4.heap.size]? = some (.cells #[.int .i64 xo, .int .i64 xn, .string xs2, .slice bo2 xl kj] 53 (0, 0))) := Lib.hid (heap_alloc_new w4 (.cells #[.int .i64 xo, .int .i64 xn, .string xs2, .slice bo2 xl kj] 53))
                          have HR4 : Hid (Row4 (w4.alloc (.cells #[.int .i64 xo, .int .i64 xn, .string xs2, .slice bo2 xl kj] 53)).drew W2.heap.size 53 (.slice va ys.length vc) qs) := Lib.hid (HR.out.1.stay (fun g hg => HA4.out.block g (HR.out.1.lt hg).1))
                          have HSZ4 : Hid (W2.heap.size ≤ (w4.alloc (.cells #[.int .i64 xo, .int .i64 xn, .string xs2, .slice bo2 xl kj] 53)).drew.heap.size) := Lib.hid (by have h1 := HB.out.1.size; have h2 := HA4.out.size; exact Nat.le_trans h1 h2)
                          have H4B : Hid ((w4.alloc (.cells #[.int .i64 xo, .int .i64 xn, .string xs2, .slice bo2 xl kj] 53)).drew.heap[eb]? = some (.cells #[.int .i64 fo, .int .i64 fn, .string fs, .slice va ys.length vc] 53 (0, 0))) := Lib.hid ((HA4.out.block eb (lt_of_heap HBX.out)).trans HBX.out)
                          have e0a : (w4.alloc (.cells #[.int .i64 xo, .int .i64 xn, .string xs2, .slice bo2 xl kj] 53)).cell? ⟨eb, 3, none⟩ = some (.slice va ys.length vc) := cell_blk H4B.out 3
                          go_region_law (refine step_appX rfl _ _ rfl W2.heap.size (.slice va ys.length vc) qs rfl HR4.out w4.heap.size xo xn xs2 bo2 xl kj rfl H4A.out (by rw [HQL.out]; omega) HSZ4.out ?_; rw [HQL.out]; intro g' cap' w5 hown hgr hor hgl; have hgr5 := hgr; have HR5 := Lib.hid hown; have HG5 := Lib.hid hgr5; have HO5 := Lib.hid hor; have HX5 := Lib.hid ((hgr5.block eb (lt_of_heap H4B.out) (by intro e; have := (HR.out.1.lt e.symm).2; have := HZ2.out; omega)).trans H4B.out); have e5 : w5.cell? ⟨eb, 3, none⟩ = some (.slice va ys.length vc) := cell_blk HX5.out 3; have f5 : w5.frozen? ⟨eb, 3, none⟩ = false := free_blk HX5.out 3; clear hown hgr hgr5 hor hgl)
                          all_goals
                            go_wp2_with fail
                            go_meet
                            have hg' : g' ≠ eb := by
                              have h1 := HZ2.out
                              rcases HO5.out with h | h
                              · have := (HR.out.1.lt h).2; omega
                              · have := HSZ4.out; omega
                            have hst : ∀ b, b ≠ eb → (w5.setCell ⟨eb, 3, none⟩ (.slice (some ⟨g', 0, none⟩) (ys.length + 1) cap')).heap[b]? = w5.heap[b]? := fun b hb => Below.heap_setCell _ _ _ _ hb
                            have HBX6 : W2.grownBy (w5.setCell ⟨eb, 3, none⟩ (.slice (some ⟨g', 0, none⟩) (ys.length + 1) cap')) (some eb) := only_set (grown_rowT (only_below HB.out.1 HA4.out.drew) HG5.out (fun g hg => (HR.out.1.lt hg).2))
                            have HBI6 := HG2.out.grown HBX6 HG2.out.size (fun g hg => by cases hg; have := HZ2.out; omega)
                            refine ⟨g', cap', Lib.hid ⟨HR5.out.stay (fun g hg => by cases hg; exact hst _ hg'), (HR.out.2.snoc HEX.out).imp fun x q hq => hq.stay (fun _ h => h) fun b hb => ?_⟩, Lib.hid ⟨HBX6, heap_set_at (i := 3) _ HX5.out⟩⟩
                            exact (HBI6.block b (HP.out.set b hb).2.1).trans (HBI.out.block b (HP.out.set b hb).2.1).symm
                      case rest =>
                        as_aux_lemma =>
                          obtain ⟨g', cap', HR6, HB6⟩ := hcut
                          have HBI6 := Lib.hid (HG2.out.grown HB6.out.1 HG2.out.size (fun g hg => by cases hg; have := HZ2.out; omega))
                          have HP6 := Lib.hid (HP.out.next HBI6.out)
                          obtain ⟨g1, c1, hv1, hx1⟩ := nvs_cell (HP6.out.row 1 v1 rfl) (j := j) (x := xj.tN) (by simp [hxj])
                          obtain ⟨g2, c2, hv2, hx2⟩ := nvs_cell (HP6.out.row 2 v2 rfl) (j := j) (x := xj.tD) (by simp [hxj])
                          have hL1 : (⟨S, xs, xs.map Xp.tN, xs.map Xp.tD, [], [], []⟩ : DB).ns.length = i := by simp [HXL.out]
                          have hL2 : (⟨S, xs, xs.map Xp.tN, xs.map Xp.tD, [], [], []⟩ : DB).ds.length = i := by simp [HXL.out]
                          rw [hL1] at hv1
                          rw [hL2] at hv2
                          subst hv1
                          subst hv2
                          have t1 : wc.cell? ⟨tb, 1, none⟩ = some (.slice (some ⟨g1, 0, none⟩) i c1) := cell_blk HP6.out.box 1
                          have t2 : wc.cell? ⟨tb, 2, none⟩ = some (.slice (some ⟨g2, 0, none⟩) i c2) := cell_blk HP6.out.box 2
                          have hb1 := tX_in xj
                          have hb2 := nSX_le ys
                          have hb3 := (sumX ys).1
                          have HSN := Lib.hid (nSX_snoc ys xj)
                          have HSD := Lib.hid (dSX_snoc ys xj)
                          obtain ⟨N, hN⟩ : ∃ z, z = xj.tN := ⟨_, rfl⟩
                          obtain ⟨D, hD⟩ : ∃ z, z = xj.tD := ⟨_, rfl⟩
                          obtain ⟨sn, hsn⟩ : ∃ z, z = nSX ys := ⟨_, rfl⟩
                          obtain ⟨sd, hsd⟩ : ∃ z, z = dSX ys := ⟨_, rfl⟩
                          rw [← hN] at hx1 hb1 HSN
                          rw [← hD] at hx2 hb1 HSD
                          rw [← hsn] at hb2 hb3 HSN
                          rw [← hsd] at hb3 HSD
                          rw [← hsn, ← hsd]
                          have m0 : N ≤ 1000 := hb1.1
                          have m1 : D ≤ 1000 := by omega
                          have m2 : sn ≤ 5000 := by omega
                          have m3 : sd ≤ 5000 := by omega
                          clear hb1 hb2 hb3 hN hD hsn hsd hL1 hL2 hxj
                          go_wp2_with fail
                          refine ⟨⟨k + 1, ys ++ [xj], some ⟨g', 0, none⟩, cap', qs ++ [(.int .i64 xo, .int .i64 xn, .string xs2, .slice bo2 xl kj)], ⟨by omega, by omega⟩, by go_num, ?_, ?_, Lib.hid ⟨HPK.out, by rw [List.length_append, List.length_append, HQL.out]; rfl, by have := HY.out.2.2; rw [List.length_append]; simp; omega⟩, ?_, ?_⟩, by simp [intOf]; omega⟩
                          · rw [HSN.out]; go_num
                          · rw [HSD.out]
                            rcases Nat.lt_or_ge sd D with h | h
                            · rw [if_pos (by omega), Nat.max_eq_right (by omega)]; go_num
                            · rw [if_neg (by omega), Nat.max_eq_left (by omega)]; go_num
                          · rw [List.length_append]; exact HR6
                          · rw [List.length_append]; exact HB6
                  · have HYE : Hid (ys = pick xs (fk.take 5)) := Lib.hid (by rw [HY.out.1, show k = 5 from by omega])
                    have k0 : (0 : Int) ≤ (k : Int) := by omega
                    have k1 : (k : Int) < (kn : Int) := by omega
                    have k2 : ¬ (k : Int) < 5 := by omega
                    go_wp2_with fail
                    go_meet
                    exact ⟨ys, va, vc, qs, rfl, rfl, Lib.hid ⟨HYE.out, HY.out.2.1, hyl⟩, HR, HB⟩
                · have HYE : Hid (ys = pick xs (fk.take 5)) := Lib.hid (by rw [HY.out.1, List.take_of_length_le (by rw [← HKN.out]; omega), List.take_of_length_le (by rw [← HKN.out]; omega)])
                  have k0 : (0 : Int) ≤ (k : Int) := by omega
                  have k1 : ¬ (k : Int) < (kn : Int) := by omega
                  go_wp2_with fail
                  go_meet
                  exact ⟨ys, va, vc, qs, rfl, rfl, Lib.hid ⟨HYE.out, HY.out.2.1, hyl⟩, HR, HB⟩
          case rest =>
            as_aux_lemma =>
              obtain ⟨ys, va, vc, qs, rfl, rfl, HY, HR, HB⟩ := hcut
              have HBI := Lib.hid (HG2.out.grown HB.out.1 HG2.out.size (fun g hg => by cases hg; have := HZ2.out; omega))
              have HPI := Lib.hid (HP.out.next HBI.out)
              have b2 := nSX_le ys
              have b3 := (sumX ys).1
              have b4 : ys.length ≤ 5 := HY.out.2.2
              obtain ⟨x, hx⟩ : ∃ x, x = Xp.mk fo fn fs ys := ⟨_, rfl⟩
              have CT : Hid (∀ w, Calls Try.prog 30 #[.int .i64 (1 + nSX ys : Nat), .int .i64 (1 + dSX ys : Nat)] w fun e w' => e = .returned (.tuple #[.int .i64 (x.tN : Nat), .int .i64 (x.tD : Nat)]) ∧ w' = w) := Lib.hid fun w => by
                have h := toldX fo fn fs ys
                have := rtold_any (1 + nSX ys) (1 + dSX ys) w
                rw [h.1, h.2, ← hx] at this
                exact this
              have HXX := Lib.hid hx
              have HTX := Lib.hid (tX_in x)
              obtain ⟨N0, hN0⟩ : ∃ z, z = 1 + nSX ys := ⟨_, rfl⟩
              obtain ⟨D0, hD0⟩ : ∃ z, z = 1 + dSX ys := ⟨_, rfl⟩
              obtain ⟨tn, htn⟩ : ∃ z, z = x.tN := ⟨_, rfl⟩
              obtain ⟨td, htd⟩ : ∃ z, z = x.tD := ⟨_, rfl⟩
              rw [← hN0, ← hD0, ← htn, ← htd] at CT
              rw [← hN0, ← hD0]
              rw [← htn, ← htd] at HTX
              have HTN := Lib.hid (And.intro htn htd)
              have b5 : N0 ≤ 5001 := by omega
              have b6 : D0 ≤ 5001 := by omega
              clear b2 b3 hx hN0 hD0 htn htd
              go_upto_region 17 with (go_at_call 30; (with_reducible refine (CT.out _).mono ?_); rintro e w4 ⟨rfl, rfl⟩)
              have HPW := Lib.hid (HP.out.list HPI.out HR.out.1 HG2.out.size)
              obtain ⟨S', hS'⟩ : ∃ Z, Z = (fun b => S b ∨ (Value.slice va ys.length vc).ownBlock = some b) := ⟨_, rfl⟩
              obtain ⟨qs0, hq0, hr0, hf0⟩ := HPW.out.row 0 v0 rfl
              have hvc : ys.length ≤ vc := by
                obtain ⟨a1, c1, e, h⟩ := HR.out.1.form
                injection e with _ e2 e3
                omega
              have HEX : Hid (QX S' w4 x (.int .i64 fo, .int .i64 fn, .string fs, .slice va ys.length vc)) := Lib.hid (by rw [HXX.out, hS']; exact ⟨va, vc, rfl, hvc, HR.out.1.toX HR.out.2⟩)
              have hql : qs0.length ≤ 1000 := by rw [hq0]; have := HXL.out; show xs.length ≤ 1000; omega
              have HQ0 := Lib.hid hq0
              have t0 : w4.cell? ⟨tb, 0, none⟩ = some v0 := cell_blk HPW.out.box 0
              obtain ⟨c0, c1, c2, c3⟩ := quad HB.out.2
              have HA4 := Lib.hid ((Below.refl w4.heap.size w4).alloc (Nat.le_refl _) (.cells #[.int .i64 fo, .int .i64 fn, .string fs, .slice va ys.length vc] 53))
              have H4A : Hid ((w4.alloc (.cells #[.int .i64 fo, .int .i64 fn, .string fs, .slice va ys.length vc] 53)).heap[w4.heap.size]? = some (.cells #[.int .i64 fo, .int .i64 fn, .string fs, .slice va ys.length vc] 53 (0, 0))) := Lib.hid (heap_alloc_new w4 (.cells #[.int .i64 fo, .int .i64 fn, .string fs, .slice va ys.length vc] 53))
              have HPA := Lib.hid (HPW.out.next HA4.out)
              have HF0 := Lib.hid (hf0.imp fun x q hq => hq.stay (fun _ h => h) fun b hb => HA4.out.block b (HPW.out.set b hb).2.1)
              have HR4 : Hid (Row4 (w4.alloc (.cells #[.int .i64 fo, .int .i64 fn, .string fs, .slice va ys.length vc] 53)) W0.heap.size 53 v0 qs0) := Lib.hid (hr0.stay (fun g hg => HA4.out.block g (hr0.lt hg).1))
              have HSZ4 : Hid (W0.heap.size ≤ (w4.alloc (.cells #[.int .i64 fo, .int .i64 fn, .string fs, .slice va ys.length vc] 53)).heap.size) := Lib.hid HPA.out.bel.size
              have t0a : (w4.alloc (.cells #[.int .i64 fo, .int .i64 fn, .string fs, .slice va ys.length vc] 53)).cell? ⟨tb, 0, none⟩ = some v0 := cell_blk HPA.out.box 0
              clear hq0 hr0 hf0 hvc
              go_cut [] (fun wx => ∃ v0' : Value, Hid (PB W0 tb ⟨S', xs ++ [x], xs.map Xp.tN, xs.map Xp.tD, [], [], []⟩ [v0', v1, v2, .slice none 0 0, .slice none 0 0, .slice none 0 0] wx))
              case first =>
                as_aux_lemma =>
                  go_wp2_with (at_builtin; refine wpList_appX rfl _ _ rfl W0.heap.size v0 qs0 rfl HR4.out w4.heap.size fo fn fs va ys.length vc rfl H4A.out hql HSZ4.out ?_; intro g' cap' w5 hown hgr hor hgl; have hgr5 := hgr; have HR5 := Lib.hid hown; have HG5 := Lib.hid hgr5; have HO5 := Lib.hid hor; have HL5 := Lib.hid hgl; have HX5 := Lib.hid ((hgr5.block tb (lt_of_heap HPA.out.box) (by intro e; have := (HPA.out.own v0 (by simp) tb e.symm).1; have := HPA.out.tbl; omega)).trans HPA.out.box); have e5 : w5.cell? ⟨tb, 0, none⟩ = some v0 := cell_blk HX5.out 0; have f5 : w5.frozen? ⟨tb, 0, none⟩ = false := free_blk HX5.out 0; clear hown hgr hgr5 hor hgl)
                  all_goals
                    go_meet
                    refine ⟨.slice (some ⟨g', 0, none⟩) (qs0.length + 1) cap', Lib.hid ?_⟩
                    have hx := HEX.out
                    rw [hS'] at hx ⊢
                    exact HPA.out.app0 rfl HQ0.out HF0.out (hx.stay (fun _ h => h) fun b hb => HA4.out.block b (HPW.out.set b hb).2.1) HR5.out HG5.out HO5.out HL5.out
              case rest =>
                as_aux_lemma =>
                  obtain ⟨v0', HPC⟩ := hcut
                  clear t0 t0a c0 c1 c2 c3 HA4 H4A HPA HR4 HSZ4
                  go_upto_region 18 with fail
                  have hl1 : (xs.map Xp.tN).length ≤ 1000 := by rw [List.length_map]; have := HXL.out; omega
                  have t1 : wc.cell? ⟨tb, 1, none⟩ = some v1 := cell_blk HPC.out.box 1
                  have HA4 := Lib.hid ((Below.refl wc.heap.size wc).alloc (Nat.le_refl _) (.cells #[.int .i64 (tn : Nat)] 3))
                  have H4A : Hid ((wc.alloc (.cells #[.int .i64 (tn : Nat)] 3)).heap[wc.heap.size]? = some (.cells #[.int .i64 (tn : Nat)] 3 (0, 0))) := Lib.hid (heap_alloc_new wc (.cells #[.int .i64 (tn : Nat)] 3))
                  have HPA := Lib.hid (HPC.out.next HA4.out)
                  have HR4 : Hid ((wc.alloc (.cells #[.int .i64 (tn : Nat)] 3)).ownsRow W0.heap.size 3 1 v1 (xs.map Xp.tN).length (nvs (xs.map Xp.tN))) := Lib.hid (HPA.out.row 1 v1 rfl)
                  have HSZ4 : Hid (W0.heap.size ≤ (wc.alloc (.cells #[.int .i64 (tn : Nat)] 3)).heap.size) := Lib.hid HPA.out.bel.size
                  have t1a : (wc.alloc (.cells #[.int .i64 (tn : Nat)] 3)).cell? ⟨tb, 1, none⟩ = some v1 := cell_blk HPA.out.box 1
                  go_cut [] (fun wx => ∃ v1' : Value, Hid (PB W0 tb ⟨S', xs ++ [x], xs.map Xp.tN ++ [tn], xs.map Xp.tD, [], [], []⟩ [v0', v1', v2, .slice none 0 0, .slice none 0 0, .slice none 0 0] wx))
                  case first =>
                    as_aux_lemma =>
                      go_wp2_with (at_builtin; refine wpList_appN rfl _ _ rfl W0.heap.size v1 _ _ rfl HR4.out wc.heap.size (tn : Nat) rfl H4A.out hl1 HSZ4.out ?_; intro g' cap' w5 hown hgr hor hgl; have hgr5 := hgr; have HR5 := Lib.hid hown; have HG5 := Lib.hid hgr5; have HO5 := Lib.hid hor; have HL5 := Lib.hid hgl; have HX5 := Lib.hid ((hgr5.block tb (lt_of_heap HPA.out.box) (by intro e; have := (HPA.out.own v1 (by simp) tb e.symm).1; have := HPA.out.tbl; omega)).trans HPA.out.box); have e5 : w5.cell? ⟨tb, 1, none⟩ = some v1 := cell_blk HX5.out 1; have f5 : w5.frozen? ⟨tb, 1, none⟩ = false := free_blk HX5.out 1; clear hown hgr hgr5 hor hgl)
                      all_goals
                        go_meet
                        have hp := HPA.out.app1 (m := tn) rfl HR5.out HG5.out (fun g e => by cases e; exact ⟨HO5.out, HL5.out⟩)
                        simp only [List.length_map] at hp
                        exact ⟨_, Lib.hid hp⟩
                  case rest =>
                    as_aux_lemma =>
                      obtain ⟨v1', HPD⟩ := hcut
                      clear t1 t1a
                      clear HA4 H4A HPA HR4 HSZ4
                      go_upto_region 19 with fail
                      have hl2 : (xs.map Xp.tD).length ≤ 1000 := by rw [List.length_map]; have := HXL.out; omega
                      have t2 : wc.cell? ⟨tb, 2, none⟩ = some v2 := cell_blk HPD.out.box 2
                      have HA4 := Lib.hid ((Below.refl wc.heap.size wc).alloc (Nat.le_refl _) (.cells #[.int .i64 (td : Nat)] 3))
                      have H4A : Hid ((wc.alloc (.cells #[.int .i64 (td : Nat)] 3)).heap[wc.heap.size]? = some (.cells #[.int .i64 (td : Nat)] 3 (0, 0))) := Lib.hid (heap_alloc_new wc (.cells #[.int .i64 (td : Nat)] 3))
                      have HPA := Lib.hid (HPD.out.next HA4.out)
                      have HR4 : Hid ((wc.alloc (.cells #[.int .i64 (td : Nat)] 3)).ownsRow W0.heap.size 3 1 v2 (xs.map Xp.tD).length (nvs (xs.map Xp.tD))) := Lib.hid (HPA.out.row 2 v2 rfl)
                      have HSZ4 : Hid (W0.heap.size ≤ (wc.alloc (.cells #[.int .i64 (td : Nat)] 3)).heap.size) := Lib.hid HPA.out.bel.size
                      have t2a : (wc.alloc (.cells #[.int .i64 (td : Nat)] 3)).cell? ⟨tb, 2, none⟩ = some v2 := cell_blk HPA.out.box 2
                      go_wp2_with (at_builtin; refine wpList_appN rfl _ _ rfl W0.heap.size v2 _ _ rfl HR4.out wc.heap.size (td : Nat) rfl H4A.out hl2 HSZ4.out ?_; intro g' cap' w5 hown hgr hor hgl; have hgr5 := hgr; have HR5 := Lib.hid hown; have HG5 := Lib.hid hgr5; have HO5 := Lib.hid hor; have HL5 := Lib.hid hgl; have HX5 := Lib.hid ((hgr5.block tb (lt_of_heap HPA.out.box) (by intro e; have := (HPA.out.own v2 (by simp) tb e.symm).1; have := HPA.out.tbl; omega)).trans HPA.out.box); have e5 : w5.cell? ⟨tb, 2, none⟩ = some v2 := cell_blk HX5.out 2; have f5 : w5.frozen? ⟨tb, 2, none⟩ = false := free_blk HX5.out 2; clear hown hgr hgr5 hor hgl)
                      all_goals
                        have hp := HPA.out.app2 (m := td) rfl HR5.out HG5.out (fun g e => by cases e; exact ⟨HO5.out, HL5.out⟩)
                        simp only [List.length_map] at hp
                        have hmap1 : (xs ++ [x]).map Xp.tN = xs.map Xp.tN ++ [tn] := by rw [List.map_append, HTN.out.1]; rfl
                        have hmap2 : (xs ++ [x]).map Xp.tD = xs.map Xp.tD ++ [td] := by rw [List.map_append, HTN.out.2]; rfl
                        have hxx : x = bldX xs ⟨fo, fn, fs, fk⟩ := by rw [HXX.out, HY.out.1]; rfl
                        refine ⟨⟨i + 1, S', v0', v1', .slice (some ⟨g', 0, none⟩) (i + 1) cap', by omega, by go_num, Lib.hid ?_⟩, by simp [intOf]; omega⟩
                        rw [HXS.out, ← hxx, hmap1, hmap2]
                        have hxl : xs.length = i := HXL.out
                        first | (rw [hxl] at hp ⊢; exact hp) | (rw [hxl] at hp; exact hp)
        · have HXE : Hid (bXs (ls.take i) = bXs ls) := Lib.hid (by rw [List.take_of_length_le (by rw [← HN.out]; omega)])
          have i0 : ¬ (i : Int) < (n : Int) := by omega
          have i2 : (0 : Int) ≤ (i : Int) := by omega
          go_wp2_with fail
          go_meet
          rw [HXE.out] at HP
          exact ⟨S, v0, v1, v2, HP⟩
  case rest =>
    obtain ⟨S, v0, v1, v2, HP⟩ := hcut
    have hXL := bXs_len ls ls.length (Nat.le_refl _)
    rw [List.take_length] at hXL
    obtain ⟨xs, hxs⟩ : ∃ xs, xs = bXs ls := ⟨_, rfl⟩
    rw [← hxs] at hXL HP
    rw [← HN.out] at hXL
    obtain ⟨L, hL⟩ : ∃ L, L = xs.length := ⟨_, rfl⟩
    have HXN : Hid (xs.length = L) := Lib.hid hL.symm
    have hL60 : L ≤ 60 := by omega
    have HXX0 := Lib.hid hxs
    clear hXL hxs hL
    go_upto_block 4 with fail
    go_cut [] (fun wx => ∃ (S : Nat → Prop) (v3 v4 v5 : Value), Hid (PB W0 tb ⟨S, xs, xs.map Xp.tN, xs.map Xp.tD, bTs xs ks, (bTs xs ks).map Tr.tN, (bTs xs ks).map Tr.tD⟩ [v0, v1, v2, v3, v4, v5] wx))
    case first =>
      go_upto_region 21 with fail
      as_aux_lemma =>
        go_loopw [13] (fun v wr => ∃ (i : Nat) (S : Nat → Prop) (v3 v4 v5 : Value), i ≤ m ∧ v = .int .i64 i ∧ Hid (PB W0 tb ⟨S, xs, xs.map Xp.tN, xs.map Xp.tD, bTs xs (ks.take i), (bTs xs (ks.take i)).map Tr.tN, (bTs xs (ks.take i)).map Tr.tD⟩ [v0, v1, v2, v3, v4, v5] wr)) (fun v _ => m - (intOf v).toNat)
        case atStart => exact ⟨0, S, _, _, _, by omega, rfl, HP⟩
        case round =>
          obtain ⟨i, S, v3, v4, v5, hi, rfl, HP⟩ := hrel
          have HBW : Hid (Below w.heap.size w wr) := Lib.hid (HG.out.grown HP.out.bel HG.out.size (fun g hg => by cases hg; have := HZ.out; omega))
          by_cases hlt : i < m
          · obtain ⟨f, hf⟩ : ∃ f, ks[i]? = some f := ⟨_, List.getElem?_eq_getElem (by rw [← HM.out]; exact hlt)⟩
            obtain ⟨a, rfl⟩ := (HK.out wr HBW.out).there (by rw [← HM.out]; omega)
            obtain ⟨bo, kc, co, mc, ⟨hkc1, hkc2⟩, ⟨hmc1, hmc2⟩, ⟨y0, y1, y2, y3⟩, hkv, hmv⟩ := ((HK.out wr HBW.out).cells a rfl (by rw [← HM.out]; omega)).2 i f hf
            have hXS := bTs_take (xs := xs) hf
            have hXL := bTs_len xs ks i (by rw [← HM.out]; exact hi)
            obtain ⟨ts, hts⟩ : ∃ ts, ts = bTs xs (ks.take i) := ⟨_, rfl⟩
            rw [← hts] at hXS hXL HP
            have HXS := Lib.hid hXS
            have HTL := Lib.hid hXL
            obtain ⟨fo, fs, fe, ft⟩ := f
            dsimp only at y0 y1 y2 y3 hkc1 hkv hmc1 hmv
            obtain ⟨kn, hkn2⟩ : ∃ k, k = fe.length := ⟨_, rfl⟩
            rw [← hkn2] at y2 hkc1
            obtain ⟨mn, hmn2⟩ : ∃ k, k = ft.length := ⟨_, rfl⟩
            rw [← hmn2] at y3 hmc1
            have HKN := Lib.hid hkn2
            have HMN := Lib.hid hmn2
            have HKV : Hid (∀ W, Below wr.heap.size wr W → VAt w.heap.size bo (ivs fe) W) := Lib.hid fun W hW => hkv.under (hW.mono HBW.out.size)
            have HMV : Hid (∀ W, Below wr.heap.size wr W → VAt w.heap.size co (ivs ft) W) := Lib.hid fun W hW => hmv.under (hW.mono HBW.out.size)
            have HBX := Lib.hid (two_box0 (.int .i64 fo) (.string fs) (.slice bo kn kc) (.slice co mn mc) (.int .i64 fo) (.string fs) (.slice none 0 0) (.slice none 0 0) 86 32 wr)
            have i0 : (i : Int) < (m : Int) := by omega
            have i1 : (i : Int) < 60 := by omega
            have i2 : (0 : Int) ≤ (i : Int) := by omega
            obtain ⟨⟨r0, r1, r2, r3⟩, p0, p1, p2, p3⟩ := new_zero wr (.int .i64 0) (.string ⟨#[]⟩) (.slice none 0 0) (.slice none 0 0) 86
            clear hf hXS hXL hts hkn2 hkv hkc1 hkc2 hmn2 hmv hmc1 hmc2
            go_upto_region 24 with fail
            clear r0 r1 r2 r3 p0 p1 p2 p3 y0 y1 y2 y3
            obtain ⟨c0, c1, c2, c3⟩ := quad (heap_alloc_new wr (.cells #[.int .i64 fo, .string fs, .slice bo kn kc, .slice co mn mc] 86))
            go_upto_region 25 with fail
            clear c0 c1 c2 c3
            obtain ⟨W2, hW2⟩ : ∃ X, (wr.alloc (.cells #[.int .i64 fo, .string fs, .slice bo kn kc, .slice co mn mc] 86)).alloc (.cells #[.int .i64 fo, .string fs, .slice none 0 0, .slice none 0 0] 32) = X := ⟨_, rfl⟩
            obtain ⟨b1, b2, g2⟩ := HBX.out W2 hW2
            obtain ⟨xb, hxb⟩ : ∃ z, z = wr.heap.size := ⟨_, rfl⟩
            obtain ⟨cb, hcb⟩ : ∃ z, z = wr.heap.size + 1 := ⟨_, rfl⟩
            rw [← hxb] at b1
            rw [← hcb] at b2
            rw [hW2, ← hxb, show xb + 1 = cb from by omega]
            have HG2 := Lib.hid g2
            have HXB := Lib.hid b1
            have HEB := Lib.hid b2
            have HZ2 := Lib.hid (show xb = wr.heap.size ∧ cb = wr.heap.size + 1 ∧ cb < W2.heap.size from ⟨hxb, hcb, lt_of_heap b2⟩)
            have HP2 := Lib.hid (HP.out.next g2)
            have HCB : Hid (W0.heap.size ≤ cb ∧ ¬ S cb ∧ ∀ v ∈ [v0, v1, v2, v3, v4, v5], v.ownBlock ≠ some cb) := Lib.hid ⟨by have := HP.out.bel.size; omega, fun h => by have := (HP.out.set cb h).2.1; omega, fun v hv e => by have := (HP.out.own v hv cb e).2; omega⟩
            have HSW : Hid (∀ b, S b → b < W2.heap.size ∧ b ≠ cb) := Lib.hid fun b hb => by have h1 := (HP.out.set b hb).2.1; have := HZ2.out; omega
            obtain ⟨wo, hwo⟩ : ∃ wo : World, wo = wr := ⟨_, rfl⟩
            rw [← hwo] at HG2 HKV HMV HP HZ2
            clear hW2 b1 b2 g2 HBX hxb hcb hwo
            go_upto_block 6 with fail
            go_cut [16, 17] (fun nv dv wi => ∃ (ys : List Xp) (va : Option Addr) (vc : Nat) (qs : List Q4), nv = .int .i64 (1 + nSX ys : Nat) ∧ dv = .int .i64 (1 + dSX ys : Nat) ∧ Hid (ys = pick xs (fe.take 3) ∧ ys.length ≤ 3) ∧ Hid (IX W2 cb 2 #[.int .i64 fo, .string fs, .slice none 0 0, .slice none 0 0] 32 S ys va vc qs wi))
            case first =>
              have HZA : Hid (cb < W2.heap.size) := Lib.hid HZ2.out.2.2
              as_aux_lemma =>
                go_upto_region 27 with fail
                go_loopw [16, 17, 18] (fun nv dv kv wi => ∃ (k : Nat) (ys : List Xp) (va : Option Addr) (vc : Nat) (qs : List Q4), (k ≤ kn ∧ k ≤ 3) ∧ kv = .int .i64 k ∧ nv = .int .i64 (1 + nSX ys : Nat) ∧ dv = .int .i64 (1 + dSX ys : Nat) ∧ Hid (ys = pick xs (fe.take k) ∧ ys.length ≤ k) ∧ Hid (IX W2 cb 2 #[.int .i64 fo, .string fs, .slice none 0 0, .slice none 0 0] 32 S ys va vc qs wi)) (fun _ _ kv _ => 3 - (intOf kv).toNat)
                case atStart => exact ⟨0, [], none, 0, [], ⟨by omega, by omega⟩, rfl, rfl, rfl, Lib.hid ⟨by rw [List.take_zero, pick_nil], by simp⟩, Lib.hid (IX.start HEB.out)⟩
                case round =>
                  obtain ⟨k, ys, va, vc, qs, ⟨hk1, hk2⟩, rfl, rfl, rfl, HY, HI⟩ := hrel
                  have HPI := Lib.hid (HP2.out.beside HI.out.grow HCB.out)
                  have HBI := Lib.hid (HG2.out.grown HI.out.grow HG2.out.size (fun g hg => by cases hg; have := HZ2.out; omega))
                  have ex : wr.cell? ⟨xb, 2, none⟩ = some (.slice bo kn kc) := cell_blk ((HI.out.grow.block xb (lt_of_heap HXB.out) (by intro e; cases e; have := HZ2.out; omega)).trans HXB.out) 2
                  have hyl : ys.length ≤ 3 := by have := HY.out.2; omega
                  by_cases hkk : k < kn
                  · by_cases hk5 : k < 3
                    · obtain ⟨κ, hκ⟩ : ∃ κ, fe[k]? = some κ := ⟨_, List.getElem?_eq_getElem (by rw [← HKN.out]; exact hkk)⟩
                      obtain ⟨b, rfl⟩ := (HKV.out wr HBI.out).there (by simp [ivs, ← HKN.out]; omega)
                      have hkc := ((HKV.out wr HBI.out).cells b rfl (by simp [ivs, ← HKN.out]; omega)).2 k (.int .i64 κ) (by rw [ivs, List.getElem?_map, hκ]; rfl)
                      have HTK : Hid (fe.take (k + 1) = fe.take k ++ [κ]) := Lib.hid (by rw [List.take_add_one, hκ]; rfl)
                      have CE := Lib.hid (earlier_any κ L (by omega))
                      have k0 : (0 : Int) ≤ (k : Int) := by omega
                      have k1 : (k : Int) < (kn : Int) := by omega
                      have k2 : (k : Int) < 3 := by omega
                      obtain ⟨ar, cr, hvr⟩ : ∃ a c, v0 = .slice a L c := by
                        obtain ⟨qs0, hq0, hr0, _⟩ := HPI.out.row 0 v0 rfl
                        obtain ⟨a0, c0, hv0, _⟩ := hr0.form
                        rw [hq0, show (⟨S, xs, xs.map Xp.tN, xs.map Xp.tD, ts, (ts).map Tr.tN, (ts).map Tr.tD⟩ : DB).xs.length = L from HXN.out] at hv0
                        exact ⟨a0, c0, hv0⟩
                      have t0 : wr.cell? ⟨tb, 0, none⟩ = some (.slice ar L cr) := (cell_blk HPI.out.box 0).trans (by rw [← hvr]; rfl)
                      clear hκ
                      by_cases hi0 : L = 0
                      · subst hi0
                        have HPK : Hid (ys = pick xs (fe.take (k + 1))) := Lib.hid (by
                          obtain rfl : xs = [] := List.length_eq_zero_iff.1 HXN.out
                          rw [HY.out.1, pick_empty, pick_empty])
                        have CE0 : Hid (∀ w, Calls Try.prog 29 #[.int .i64 κ, .int .i64 0] w fun e w' => e = .returned (.int .i64 (-1)) ∧ w' = w) := Lib.hid fun w => earlier_any κ 0 (by omega) w
                        go_upto_region 29 with fail
                        go_cut [19] (fun jv wx => jv = .int .i64 (-1) ∧ Hid (Below wr.heap.size wr wx))
                        case first =>
                          as_aux_lemma =>
                            go_quiet ((go_at_call 29; (with_reducible exact Calls.quiet_of_same (CE0.out _))))
                            go_wp2_with fail
                            go_meet
                            exact ⟨rfl, Lib.hid (below_drewN (Below.refl _ _) _)⟩
                        case rest =>
                          as_aux_lemma =>
                            obtain ⟨rfl, HW4⟩ := hcut
                            go_wp2_with fail
                            refine ⟨⟨k + 1, ys, va, vc, qs, ⟨by omega, by omega⟩, by go_num, rfl, rfl, Lib.hid ⟨HPK.out, by have := HY.out.2; omega⟩, Lib.hid (HI.out.next HW4.out fun b hb => Nat.lt_of_lt_of_le (HSW.out b hb).1 HI.out.grow.size)⟩, by simp [intOf]; omega⟩
                      · have hjl := earl_lt (k := κ) (n := L) (by omega)
                        rw [if_neg hi0] at CE
                        obtain ⟨j, hj⟩ : ∃ j, j = earl κ L := ⟨_, rfl⟩
                        rw [← hj] at CE hjl
                        obtain ⟨xj, hxj⟩ : ∃ x, xs[j]? = some x := ⟨_, List.getElem?_eq_getElem (by rw [HXN.out]; exact hjl)⟩
                        have HPK : Hid (ys ++ [xj] = pick xs (fe.take (k + 1))) := Lib.hid (by rw [HTK.out, pick_snoc (x := xj) _ _ (by rw [HXN.out]; omega) (by rw [HXN.out, ← hj]; exact hxj), HY.out.1])
                        have j0 : (0 : Int) ≤ (j : Int) := by omega
                        have j1 : (j : Int) < (L : Int) := by omega
                        clear hj
                        go_upto_region 29 with fail
                        go_cut [19] (fun jv wx => jv = .int .i64 j ∧ Hid (Below wr.heap.size wr wx))
                        case first =>
                          as_aux_lemma =>
                            go_quiet ((go_at_call 29; (with_reducible exact Calls.quiet_of_same (CE.out _))))
                            go_wp2_with fail
                            go_meet
                            exact ⟨rfl, Lib.hid (below_drewN (Below.refl _ _) _)⟩
                        case rest =>
                          as_aux_lemma =>
                            obtain ⟨rfl, HW4⟩ := hcut
                            have HPC := Lib.hid (HPI.out.next HW4.out)
                            have HIC := Lib.hid (HI.out.next HW4.out fun b hb => Nat.lt_of_lt_of_le (HSW.out b hb).1 HI.out.grow.size)
                            obtain ⟨qs0, hq0, hr0, hf0⟩ := HPC.out.row 0 v0 rfl
                            obtain ⟨qj, hqj, bo2, kj, rfl, hkj, hex⟩ := hf0.get hxj
                            obtain ⟨xo, hxo⟩ : ∃ v, v = xj.op := ⟨_, rfl⟩
                            obtain ⟨xn, hxn⟩ : ∃ v, v = xj.n := ⟨_, rfl⟩
                            obtain ⟨xs2, hxs2⟩ : ∃ v, v = xj.nm := ⟨_, rfl⟩
                            obtain ⟨xl, hxl⟩ : ∃ v, v = xj.args.length := ⟨_, rfl⟩
                            have HEX : Hid (QX S wc xj (.int .i64 xo, .int .i64 xn, .string xs2, .slice bo2 xl kj)) := Lib.hid ⟨bo2, kj, by rw [hxo, hxn, hxs2, hxl], hkj, hex⟩
                            rw [← hxo, ← hxn, ← hxs2, ← hxl] at hqj
                            clear hkj hex hxo hxn hxs2 hxl
                            obtain ⟨a0, c0, hv0, hc0⟩ := hr0.form
                            rw [hq0, show (⟨S, xs, xs.map Xp.tN, xs.map Xp.tD, ts, (ts).map Tr.tN, (ts).map Tr.tD⟩ : DB).xs.length = L from HXN.out] at hv0
                            have hr0' := hr0
                            rw [hv0] at hr0'
                            obtain ⟨g0, rfl, hg0, hg0b, y0, y1, y2, y3⟩ := hr0'.get hqj
                            have t0c : wc.cell? ⟨tb, 0, none⟩ = some (.slice (some ⟨g0, 0, none⟩) L c0) := (cell_blk HPC.out.box 0).trans (by rw [← hv0]; rfl)
                            have e0 : wc.cell? ⟨cb, 2, none⟩ = some (.slice va ys.length vc) := cell_blk HIC.out.box 2
                            have f0 : wc.frozen? ⟨cb, 2, none⟩ = false := free_blk HIC.out.box 2
                            dsimp only at y0 y1 y2 y3
                            have hadd := add_atT g0 (j * 4)
                            rw [hadd] at y0 y1 y2 y3
                            dsimp only at y1 y2 y3
                            clear hadd hq0 hr0 hr0' hf0 hqj hg0 hg0b hc0 hv0
                            go_upto_region 31 with fail
                            go_cut [] (fun wx => ∃ (g' cap' : Nat), Hid (IX W2 cb 2 #[.int .i64 fo, .string fs, .slice none 0 0, .slice none 0 0] 32 S (ys ++ [xj]) (some ⟨g', 0, none⟩) cap' (qs ++ [(.int .i64 xo, .int .i64 xn, .string xs2, .slice bo2 xl kj)]) wx))
                            case first =>
                              as_aux_lemma =>
                                have HA4 := Lib.hid ((Below.refl wc.heap.size wc).alloc (Nat.le_refl _) (.cells #[.int .i64 xo, .int .i64 xn, .string xs2, .slice bo2 xl kj] 53))
                                have H4A : Hid ((wc.alloc (.cells #[.int .i64 xo, .int .i64 xn, .string xs2, .slice bo2 xl kj] 53)).drew.heap[wc.heap.size]? = some (.cells #[.int .i64 xo, .int .i64 xn, .string xs2, .slice bo2 xl kj] 53 (0, 0))) := Lib.hid (heap_alloc_new wc (.cells #[.int .i64 xo, .int .i64 xn, .string xs2, .slice bo2 xl kj] 53))
                                have HI4 : Hid (IX W2 cb 2 #[.int .i64 fo, .string fs, .slice none 0 0, .slice none 0 0] 32 S ys va vc qs (wc.alloc (.cells #[.int .i64 xo, .int .i64 xn, .string xs2, .slice bo2 xl kj] 53)).drew) := Lib.hid (HIC.out.next HA4.out.drew fun b hb => Nat.lt_of_lt_of_le (HSW.out b hb).1 HIC.out.grow.size)
                                have HEX4 : Hid (QX S (wc.alloc (.cells #[.int .i64 xo, .int .i64 xn, .string xs2, .slice bo2 xl kj] 53)).drew xj (.int .i64 xo, .int .i64 xn, .string xs2, .slice bo2 xl kj)) := Lib.hid (HEX.out.stay (fun _ h => h) fun b hb => HA4.out.drew.block b (Nat.lt_of_lt_of_le (HSW.out b hb).1 HIC.out.grow.size))
                                have e0a : (wc.alloc (.cells #[.int .i64 xo, .int .i64 xn, .string xs2, .slice bo2 xl kj] 53)).cell? ⟨cb, 2, none⟩ = some (.slice va ys.length vc) := cell_blk HI4.out.box 2
                                go_region_law (refine step_appX rfl _ _ rfl W2.heap.size (.slice va ys.length vc) qs rfl HI4.out.row wc.heap.size xo xn xs2 bo2 xl kj rfl H4A.out (by rw [HI4.out.len]; omega) HI4.out.grow.size ?_; rw [HI4.out.len]; intro g' cap' w5 hown hgr hor hgl; have HR5 := Lib.hid hown; have HG5 := Lib.hid hgr; have HO5 := Lib.hid hor; have HX5 := Lib.hid ((hgr.block cb (lt_of_heap HI4.out.box) (by intro e; have := (HI4.out.row.lt e.symm).2; have := HZ2.out; have := HZA.out; omega)).trans HI4.out.box); have e5 : w5.cell? ⟨cb, 2, none⟩ = some (.slice va ys.length vc) := cell_blk HX5.out 2; have f5 : w5.frozen? ⟨cb, 2, none⟩ = false := free_blk HX5.out 2; clear hown hgr hor hgl)
                                all_goals
                                  go_wp2_with fail
                                  go_meet
                                  exact ⟨g', cap', Lib.hid (HI4.out.app HEX4.out HSW.out HZA.out HR5.out HG5.out HO5.out)⟩
                            case rest =>
                              as_aux_lemma =>
                                obtain ⟨g', cap', HI6⟩ := hcut
                                have HP6 := Lib.hid (HP2.out.beside HI6.out.grow HCB.out)
                                obtain ⟨g1, c1, hv1, hx1⟩ := nvs_cell (HP6.out.row 1 v1 rfl) (j := j) (x := xj.tN) (by simp [hxj])
                                obtain ⟨g2, c2, hv2, hx2⟩ := nvs_cell (HP6.out.row 2 v2 rfl) (j := j) (x := xj.tD) (by simp [hxj])
                                rw [show (⟨S, xs, xs.map Xp.tN, xs.map Xp.tD, ts, (ts).map Tr.tN, (ts).map Tr.tD⟩ : DB).ns.length = L from by simp [HXN.out]] at hv1
                                rw [show (⟨S, xs, xs.map Xp.tN, xs.map Xp.tD, ts, (ts).map Tr.tN, (ts).map Tr.tD⟩ : DB).ds.length = L from by simp [HXN.out]] at hv2
                                have t1 : wc.cell? ⟨tb, 1, none⟩ = some (.slice (some ⟨g1, 0, none⟩) L c1) := (cell_blk HP6.out.box 1).trans (by rw [← hv1]; rfl)
                                have t2 : wc.cell? ⟨tb, 2, none⟩ = some (.slice (some ⟨g2, 0, none⟩) L c2) := (cell_blk HP6.out.box 2).trans (by rw [← hv2]; rfl)
                                have hb1 := tX_in xj
                                have hb2 := nSX_le ys
                                have hb3 := (sumX ys).1
                                have HSN := Lib.hid (nSX_snoc ys xj)
                                have HSD := Lib.hid (dSX_snoc ys xj)
                                obtain ⟨N, hN⟩ : ∃ z, z = xj.tN := ⟨_, rfl⟩
                                obtain ⟨D, hD⟩ : ∃ z, z = xj.tD := ⟨_, rfl⟩
                                obtain ⟨sn, hsn⟩ : ∃ z, z = nSX ys := ⟨_, rfl⟩
                                obtain ⟨sd, hsd⟩ : ∃ z, z = dSX ys := ⟨_, rfl⟩
                                rw [← hN] at hx1 hb1 HSN
                                rw [← hD] at hx2 hb1 HSD
                                rw [← hsn] at hb2 hb3 HSN
                                rw [← hsd] at hb3 HSD
                                rw [← hsn, ← hsd]
                                have m0 : N ≤ 1000 := hb1.1
                                have m1 : D ≤ 1000 := by omega
                                have m2 : sn ≤ 5000 := by omega
                                have m3 : sd ≤ 5000 := by omega
                                clear hb1 hb2 hb3 hN hD hsn hsd hv1 hv2 hxj
                                go_wp2_with fail
                                refine ⟨⟨k + 1, ys ++ [xj], some ⟨g', 0, none⟩, cap', qs ++ [(.int .i64 xo, .int .i64 xn, .string xs2, .slice bo2 xl kj)], ⟨by omega, by omega⟩, by go_num, ?_, ?_, Lib.hid ⟨HPK.out, by have := HY.out.2; rw [List.length_append]; simp; omega⟩, HI6⟩, by simp [intOf]; omega⟩
                                · rw [HSN.out]; go_num
                                · rw [HSD.out]
                                  rcases Nat.lt_or_ge sd D with h | h
                                  · rw [if_pos (by omega), Nat.max_eq_right (by omega)]; go_num
                                  · rw [if_neg (by omega), Nat.max_eq_left (by omega)]; go_num
                    · have HYE : Hid (ys = pick xs (fe.take 3)) := Lib.hid (by rw [HY.out.1, show k = 3 from by omega])
                      have k0 : (0 : Int) ≤ (k : Int) := by omega
                      have k1 : (k : Int) < (kn : Int) := by omega
                      have k2 : ¬ (k : Int) < 3 := by omega
                      go_wp2_with fail
                      go_meet
                      exact ⟨ys, va, vc, qs, rfl, rfl, Lib.hid ⟨HYE.out, hyl⟩, HI⟩
                  · have HYE : Hid (ys = pick xs (fe.take 3)) := Lib.hid (by rw [HY.out.1, List.take_of_length_le (by rw [← HKN.out]; omega), List.take_of_length_le (by rw [← HKN.out]; omega)])
                    have k0 : (0 : Int) ≤ (k : Int) := by omega
                    have k1 : ¬ (k : Int) < (kn : Int) := by omega
                    go_wp2_with fail
                    go_meet
                    exact ⟨ys, va, vc, qs, rfl, rfl, Lib.hid ⟨HYE.out, hyl⟩, HI⟩
            case rest =>
              obtain ⟨ys, va, vc, qs, rfl, rfl, HY, HI⟩ := hcut
              have HPI := Lib.hid (HP2.out.beside HI.out.grow HCB.out)
              have HG3 := Lib.hid (HG2.out.grown HI.out.grow HG2.out.size (fun g hg => by cases hg; have := HZ2.out; omega))
              have HPJ := Lib.hid (HP.out.list HPI.out HI.out.row HG2.out.size)
              have HEX : Hid (ExL (fun b => S b ∨ (Value.slice va ys.length vc).ownBlock = some b) wc ys va ∧ ys.length ≤ vc) := Lib.hid ⟨HI.out.row.toX HI.out.fit, by
                obtain ⟨a1, c1, e, h⟩ := HI.out.row.form
                injection e with _ e2 e3
                have := HI.out.len
                omega⟩
              have HVG : Hid (∀ g, (Value.slice va ys.length vc).ownBlock = some g → W2.heap.size ≤ g ∧ g < wc.heap.size) := Lib.hid fun g hg => ⟨(HI.out.row.lt hg).2, (HI.out.row.lt hg).1⟩
              have HCB1 : Hid (W0.heap.size ≤ cb ∧ ¬ (S cb ∨ (Value.slice va ys.length vc).ownBlock = some cb) ∧ ∀ v ∈ [v0, v1, v2, v3, v4, v5], v.ownBlock ≠ some cb) := Lib.hid ⟨HCB.out.1, fun h => h.elim HCB.out.2.1 (fun e => by have := (HVG.out cb e).1; have := HZ2.out; omega), HCB.out.2.2⟩
              have HSW1 : Hid (∀ b, (S b ∨ (Value.slice va ys.length vc).ownBlock = some b) → b < wc.heap.size ∧ b ≠ cb) := Lib.hid fun b hb => by
                have h0 := HI.out.grow.size
                have h3 := HZ2.out
                rcases hb with hb | hb
                · have h1 := HSW.out b hb; omega
                · have h1 := HVG.out b hb; omega
              obtain ⟨S1, hS1⟩ : ∃ Z, Z = (fun b => S b ∨ (Value.slice va ys.length vc).ownBlock = some b) := ⟨_, rfl⟩
              have HB3 : Hid (wc.heap[cb]? = some (.cells #[.int .i64 fo, .string fs, .slice va ys.length vc, .slice none 0 0] 32 (0, 0))) := Lib.hid HI.out.box
              have HXB3 : Hid (wc.heap[xb]? = some (.cells #[.int .i64 fo, .string fs, .slice bo kn kc, .slice co mn mc] 86 (0, 0))) := Lib.hid ((HI.out.grow.block xb (lt_of_heap HXB.out) (by intro e; cases e; have := HZ2.out; omega)).trans HXB.out)
              have HCB2 : Hid (W0.heap.size ≤ cb ∧ ¬ S1 cb ∧ ∀ v ∈ [v0, v1, v2, v3, v4, v5], v.ownBlock ≠ some cb) := by rw [hS1]; exact HCB1
              have HSW2 : Hid (∀ b, S1 b → b < wc.heap.size ∧ b ≠ cb) := by rw [hS1]; exact HSW1
              have HEX2 : Hid (ExL S1 wc ys va ∧ ys.length ≤ vc) := by rw [hS1]; exact HEX
              have HP3 : Hid (PB W0 tb ⟨S1, xs, xs.map Xp.tN, xs.map Xp.tD, ts, (ts).map Tr.tN, (ts).map Tr.tD⟩ [v0, v1, v2, v3, v4, v5] wc) := by rw [hS1]; exact HPJ
              have hyl : ys.length ≤ 3 := HY.out.2
              have HYP := Lib.hid HY.out.1
              obtain ⟨yn, hyn⟩ : ∃ z, z = ys.length := ⟨_, rfl⟩
              rw [← hyn] at HB3 HEX2 hyl
              have HYN := Lib.hid hyn
              have hy2 := nSX_le ys
              have hy3 := (sumX ys).1
              rw [← hyn] at hy2
              obtain ⟨A0, hA0⟩ : ∃ z, z = nSX ys := ⟨_, rfl⟩
              obtain ⟨A1, hA1⟩ : ∃ z, z = dSX ys := ⟨_, rfl⟩
              rw [← hA0] at hy2 hy3
              rw [← hA1] at hy3
              have HA01 := Lib.hid (And.intro hA0 hA1)
              rw [← hA0, ← hA1]
              have HZ3 : Hid (cb < wc.heap.size ∧ xb ≠ cb ∧ W2.heap.size ≤ wc.heap.size) := Lib.hid (by have := HI.out.grow.size; have := HZ2.out; omega)
              obtain ⟨W3, hW3⟩ : ∃ W3 : World, W3 = wc := ⟨_, rfl⟩
              rw [← hW3] at HB3 HXB3 HSW2 HEX2 HP3 HG3 HZ3
              have HG3W := HG3
              clear HY HI HPI HPJ HEX HVG HCB1 HSW1 hS1 HCB HSW hyn hA0 hA1
              go_upto_block 8 with fail
              go_cut [16, 17] (fun nv dv wi => ∃ (zs : List Tr) (va2 : Option Addr) (vc2 : Nat) (qs : List Q4), nv = .int .i64 (1 + A0 + nST zs : Nat) ∧ dv = .int .i64 (1 + max A1 (dST zs) : Nat) ∧ Hid (zs = pick ts (ft.take 4) ∧ zs.length ≤ 4) ∧ Hid (IT W3 cb 3 #[.int .i64 fo, .string fs, .slice va yn vc, .slice none 0 0] 32 S1 zs va2 vc2 qs wi))
              case first =>
                have HZB : Hid (cb < W3.heap.size) := Lib.hid HZ3.out.1
                as_aux_lemma =>
                  go_upto_region 35 with fail
                  go_loopw [16, 17, 20] (fun nv dv kv wi => ∃ (k : Nat) (ys : List Tr) (vb : Option Addr) (vd : Nat) (qs : List Q4), (k ≤ mn ∧ k ≤ 4) ∧ kv = .int .i64 k ∧ nv = .int .i64 (1 + A0 + nST ys : Nat) ∧ dv = .int .i64 (1 + max A1 (dST ys) : Nat) ∧ Hid (ys = pick ts (ft.take k) ∧ ys.length ≤ k) ∧ Hid (IT W3 cb 3 #[.int .i64 fo, .string fs, .slice va yn vc, .slice none 0 0] 32 S1 ys vb vd qs wi)) (fun _ _ kv _ => 4 - (intOf kv).toNat)
                  case atStart => exact ⟨0, [], none, 0, [], ⟨by omega, by omega⟩, rfl, by show _ = Value.int .i64 ((1 + A0 + 0 : Nat) : Int); rfl, by show _ = Value.int .i64 ((1 + max A1 0 : Nat) : Int); rw [Nat.max_eq_left (Nat.zero_le _)], Lib.hid ⟨by rw [List.take_zero, pick_nil], by simp⟩, Lib.hid (by subst hW3; exact IT.start HB3.out)⟩
                  case round =>
                    obtain ⟨k, ys, vb, vd, qs, ⟨hk1, hk2⟩, rfl, rfl, rfl, HY, HI⟩ := hrel
                    have HPI := Lib.hid (HP3.out.beside HI.out.grow HCB2.out)
                    have HBI := Lib.hid (HG3.out.grown HI.out.grow HG3.out.size (fun g hg => by cases hg; have := HZ2.out; omega))
                    have ex : wr.cell? ⟨xb, 3, none⟩ = some (.slice co mn mc) := cell_blk ((HI.out.grow.block xb (lt_of_heap HXB3.out) (by intro e; cases e; have := HZ2.out; omega)).trans HXB3.out) 3
                    have hyl : ys.length ≤ 4 := by have := HY.out.2; omega
                    by_cases hkk : k < mn
                    · by_cases hk5 : k < 4
                      · obtain ⟨κ, hκ⟩ : ∃ κ, ft[k]? = some κ := ⟨_, List.getElem?_eq_getElem (by rw [← HMN.out]; exact hkk)⟩
                        obtain ⟨b, rfl⟩ := (HMV.out wr HBI.out).there (by simp [ivs, ← HMN.out]; omega)
                        have hkc := ((HMV.out wr HBI.out).cells b rfl (by simp [ivs, ← HMN.out]; omega)).2 k (.int .i64 κ) (by rw [ivs, List.getElem?_map, hκ]; rfl)
                        have HTK : Hid (ft.take (k + 1) = ft.take k ++ [κ]) := Lib.hid (by rw [List.take_add_one, hκ]; rfl)
                        have CE := Lib.hid (earlier_any κ i (by omega))
                        have k0 : (0 : Int) ≤ (k : Int) := by omega
                        have k1 : (k : Int) < (mn : Int) := by omega
                        have k2 : (k : Int) < 4 := by omega
                        clear hκ
                        by_cases hi0 : i = 0
                        · subst hi0
                          have HPK : Hid (ys = pick ts (ft.take (k + 1))) := Lib.hid (by
                            obtain rfl : ts = [] := List.length_eq_zero_iff.1 HTL.out
                            rw [HY.out.1, pick_empty, pick_empty])
                          have CE0 : Hid (∀ w, Calls Try.prog 29 #[.int .i64 κ, .int .i64 0] w fun e w' => e = .returned (.int .i64 (-1)) ∧ w' = w) := Lib.hid fun w => earlier_any κ 0 (by omega) w
                          go_wp2_with (go_at_call 29; (with_reducible refine (CE0.out _).mono ?_); rintro e w4 ⟨rfl, rfl⟩)
                          refine ⟨?_, ?measure⟩
                          apply Exists.intro
                          apply Exists.intro
                          (repeat apply Exists.intro)
                          refine ⟨?rel, rfl⟩
                          case rel => exact ⟨k + 1, ys, vb, vd, qs, ⟨by omega, by omega⟩, by go_num, rfl, rfl, Lib.hid ⟨HPK.out, by have := HY.out.2; omega⟩, HI⟩
                          case measure => simp [intOf]; omega
                        · have hjl := earl_lt (k := κ) (n := i) (by omega)
                          rw [if_neg hi0] at CE
                          obtain ⟨j, hj⟩ : ∃ j, j = earl κ i := ⟨_, rfl⟩
                          rw [← hj] at CE hjl
                          obtain ⟨xj, hxj⟩ : ∃ x, ts[j]? = some x := ⟨_, List.getElem?_eq_getElem (by rw [HTL.out]; exact hjl)⟩
                          have HPK : Hid (ys ++ [xj] = pick ts (ft.take (k + 1))) := Lib.hid (by rw [HTK.out, pick_snoc (x := xj) _ _ (by rw [HTL.out]; omega) (by rw [HTL.out, ← hj]; exact hxj), HY.out.1])
                          have j0 : (0 : Int) ≤ (j : Int) := by omega
                          have j1 : (j : Int) < (i : Int) := by omega
                          clear hj
                          go_upto_region 38 with (go_at_call 29; (with_reducible refine (CE.out _).mono ?_); rintro e w4 ⟨rfl, rfl⟩)
                          obtain ⟨wc, HW4⟩ : ∃ wc, Hid (Below w4.heap.size w4 wc ∧ wc = w4) := ⟨w4, Lib.hid ⟨Below.refl _ _, rfl⟩⟩
                          obtain rfl := HW4.out.2
                          have HPC := Lib.hid (HPI.out.next HW4.out.1)
                          have HIC := Lib.hid (HI.out.next HW4.out.1 fun b hb => Nat.lt_of_lt_of_le (HSW2.out b hb).1 HI.out.grow.size)
                          obtain ⟨qs0, hq0, hr0, hf0⟩ := HPC.out.row 3 v3 rfl
                          obtain ⟨qj, hqj, eo2, ej, to2, tj, rfl, hej, htj, hex, htx⟩ := hf0.get hxj
                          obtain ⟨xo, hxo⟩ : ∃ v, v = xj.op := ⟨_, rfl⟩
                          obtain ⟨xs2, hxs2⟩ : ∃ v, v = xj.nm := ⟨_, rfl⟩
                          obtain ⟨xe, hxe⟩ : ∃ v, v = xj.exprs.length := ⟨_, rfl⟩
                          obtain ⟨xt, hxt⟩ : ∃ v, v = xj.terms.length := ⟨_, rfl⟩
                          have HEX : Hid (QT S1 wc xj (.int .i64 xo, .string xs2, .slice eo2 xe ej, .slice to2 xt tj)) := Lib.hid ⟨eo2, ej, to2, tj, by rw [hxo, hxs2, hxe, hxt], hej, htj, hex, htx⟩
                          rw [← hxo, ← hxs2, ← hxe, ← hxt] at hqj
                          clear hej htj hex htx hxo hxs2 hxe hxt
                          obtain ⟨a0, c0, hv0, hc0⟩ := hr0.form
                          rw [hq0, show (⟨S1, xs, xs.map Xp.tN, xs.map Xp.tD, ts, (ts).map Tr.tN, (ts).map Tr.tD⟩ : DB).ts.length = i from HTL.out] at hv0
                          have hr0' := hr0
                          rw [hv0] at hr0'
                          obtain ⟨g0, rfl, hg0, hg0b, y0, y1, y2, y3⟩ := hr0'.get hqj
                          have t0c : wc.cell? ⟨tb, 3, none⟩ = some (.slice (some ⟨g0, 0, none⟩) i c0) := (cell_blk HPC.out.box 3).trans (by rw [← hv0]; rfl)
                          have e0 : wc.cell? ⟨cb, 3, none⟩ = some (.slice vb ys.length vd) := cell_blk HIC.out.box 3
                          have f0 : wc.frozen? ⟨cb, 3, none⟩ = false := free_blk HIC.out.box 3
                          dsimp only at y0 y1 y2 y3
                          have hadd := add_atT g0 (j * 4)
                          rw [hadd] at y0 y1 y2 y3
                          dsimp only at y1 y2 y3
                          clear hadd hq0 hr0 hr0' hf0 hqj hg0 hg0b hc0 hv0
                          go_upto_region 39 with fail
                          go_cut [] (fun wx => ∃ (g' cap' : Nat), Hid (IT W3 cb 3 #[.int .i64 fo, .string fs, .slice va yn vc, .slice none 0 0] 32 S1 (ys ++ [xj]) (some ⟨g', 0, none⟩) cap' (qs ++ [(.int .i64 xo, .string xs2, .slice eo2 xe ej, .slice to2 xt tj)]) wx))
                          case first =>
                            as_aux_lemma =>
                              have HA4 := Lib.hid ((Below.refl wc.heap.size wc).alloc (Nat.le_refl _) (.cells #[.int .i64 xo, .string xs2, .slice eo2 xe ej, .slice to2 xt tj] 32))
                              have H4A : Hid ((wc.alloc (.cells #[.int .i64 xo, .string xs2, .slice eo2 xe ej, .slice to2 xt tj] 32)).drew.heap[wc.heap.size]? = some (.cells #[.int .i64 xo, .string xs2, .slice eo2 xe ej, .slice to2 xt tj] 32 (0, 0))) := Lib.hid (heap_alloc_new wc (.cells #[.int .i64 xo, .string xs2, .slice eo2 xe ej, .slice to2 xt tj] 32))
                              have HI4 : Hid (IT W3 cb 3 #[.int .i64 fo, .string fs, .slice va yn vc, .slice none 0 0] 32 S1 ys vb vd qs (wc.alloc (.cells #[.int .i64 xo, .string xs2, .slice eo2 xe ej, .slice to2 xt tj] 32)).drew) := Lib.hid (HIC.out.next HA4.out.drew fun b hb => Nat.lt_of_lt_of_le (HSW2.out b hb).1 HIC.out.grow.size)
                              have HEX4 : Hid (QT S1 (wc.alloc (.cells #[.int .i64 xo, .string xs2, .slice eo2 xe ej, .slice to2 xt tj] 32)).drew xj (.int .i64 xo, .string xs2, .slice eo2 xe ej, .slice to2 xt tj)) := Lib.hid (HEX.out.stay (fun _ h => h) fun b hb => HA4.out.drew.block b (Nat.lt_of_lt_of_le (HSW2.out b hb).1 HIC.out.grow.size))
                              have e0a : (wc.alloc (.cells #[.int .i64 xo, .string xs2, .slice eo2 xe ej, .slice to2 xt tj] 32)).cell? ⟨cb, 3, none⟩ = some (.slice vb ys.length vd) := cell_blk HI4.out.box 3
                              go_region_law (refine step_appR rfl _ _ rfl W3.heap.size (.slice vb ys.length vd) qs rfl HI4.out.row wc.heap.size xo xs2 eo2 to2 xe ej xt tj rfl H4A.out (by rw [HI4.out.len]; omega) HI4.out.grow.size ?_; rw [HI4.out.len]; intro g' cap' w5 hown hgr hor hgl; have HR5 := Lib.hid hown; have HG5 := Lib.hid hgr; have HO5 := Lib.hid hor; have HX5 := Lib.hid ((hgr.block cb (lt_of_heap HI4.out.box) (by intro e; have := (HI4.out.row.lt e.symm).2; have := HZ2.out; have := HZB.out; omega)).trans HI4.out.box); have e5 : w5.cell? ⟨cb, 3, none⟩ = some (.slice vb ys.length vd) := cell_blk HX5.out 3; have f5 : w5.frozen? ⟨cb, 3, none⟩ = false := free_blk HX5.out 3; clear hown hgr hor hgl)
                              all_goals
                                go_wp2_with fail
                                go_meet
                                exact ⟨g', cap', Lib.hid (HI4.out.app HEX4.out HSW2.out HZB.out HR5.out HG5.out HO5.out)⟩
                          case rest =>
                            as_aux_lemma =>
                              obtain ⟨g', cap', HI6⟩ := hcut
                              have HP6 := Lib.hid (HP3.out.beside HI6.out.grow HCB2.out)
                              obtain ⟨g1, c1, hv1, hx1⟩ := nvs_cell (HP6.out.row 4 v4 rfl) (j := j) (x := xj.tN) (by simp [hxj])
                              obtain ⟨g2, c2, hv2, hx2⟩ := nvs_cell (HP6.out.row 5 v5 rfl) (j := j) (x := xj.tD) (by simp [hxj])
                              rw [show (⟨S1, xs, xs.map Xp.tN, xs.map Xp.tD, ts, (ts).map Tr.tN, (ts).map Tr.tD⟩ : DB).ms.length = i from by simp [HTL.out]] at hv1
                              rw [show (⟨S1, xs, xs.map Xp.tN, xs.map Xp.tD, ts, (ts).map Tr.tN, (ts).map Tr.tD⟩ : DB).es.length = i from by simp [HTL.out]] at hv2
                              have t1 : wc.cell? ⟨tb, 4, none⟩ = some (.slice (some ⟨g1, 0, none⟩) i c1) := (cell_blk HP6.out.box 4).trans (by rw [← hv1]; rfl)
                              have t2 : wc.cell? ⟨tb, 5, none⟩ = some (.slice (some ⟨g2, 0, none⟩) i c2) := (cell_blk HP6.out.box 5).trans (by rw [← hv2]; rfl)
                              have hb1 := tT_in xj
                              have hb2 := nST_le ys
                              have hb3 := (sumT ys).1
                              have HSN := Lib.hid (nST_snoc ys xj)
                              have HSD := Lib.hid (dST_snoc ys xj)
                              obtain ⟨N, hN⟩ : ∃ z, z = xj.tN := ⟨_, rfl⟩
                              obtain ⟨D, hD⟩ : ∃ z, z = xj.tD := ⟨_, rfl⟩
                              obtain ⟨sn, hsn⟩ : ∃ z, z = nST ys := ⟨_, rfl⟩
                              obtain ⟨sd, hsd⟩ : ∃ z, z = dST ys := ⟨_, rfl⟩
                              rw [← hN] at hx1 hb1 HSN
                              rw [← hD] at hx2 hb1 HSD
                              rw [← hsn] at hb2 hb3 HSN
                              rw [← hsd] at hb3 HSD
                              rw [← hsn, ← hsd]
                              have m0 : N ≤ 1000 := hb1.1
                              have m1 : D ≤ 1000 := by omega
                              have m2 : sn ≤ 5000 := by omega
                              have m3 : sd ≤ 5000 := by omega
                              clear hb1 hb2 hb3 hN hD hsn hsd hv1 hv2 hxj
                              obtain ⟨md, hmd⟩ : ∃ z, z = max A1 sd := ⟨_, rfl⟩
                              rw [← hmd]
                              have hmd1 : md ≤ 5001 ∧ A1 ≤ md ∧ sd ≤ md ∧ (md = A1 ∨ md = sd) := by omega
                              go_wp2_with fail
                              refine ⟨⟨k + 1, ys ++ [xj], some ⟨g', 0, none⟩, cap', qs ++ [(.int .i64 xo, .string xs2, .slice eo2 xe ej, .slice to2 xt tj)], ⟨by omega, by omega⟩, by go_num, ?_, ?_, Lib.hid ⟨HPK.out, by have := HY.out.2; rw [List.length_append]; simp; omega⟩, HI6⟩, by simp [intOf]; omega⟩
                              · rw [HSN.out]; go_num
                              · rw [HSD.out]
                                rcases Nat.lt_or_ge md D with h | h
                                · rw [if_pos (by omega)]; rw [show max A1 (max sd D) = D from by omega]; go_num
                                · rw [if_neg (by omega)]; rw [show max A1 (max sd D) = md from by omega, hmd]; go_num
                      · have HYE : Hid (ys = pick ts (ft.take 4)) := Lib.hid (by rw [HY.out.1, show k = 4 from by omega])
                        have k0 : (0 : Int) ≤ (k : Int) := by omega
                        have k1 : (k : Int) < (mn : Int) := by omega
                        have k2 : ¬ (k : Int) < 4 := by omega
                        go_wp2_with fail
                        go_meet
                        exact ⟨ys, vb, vd, qs, rfl, rfl, Lib.hid ⟨HYE.out, hyl⟩, HI⟩
                    · have HYE : Hid (ys = pick ts (ft.take 4)) := Lib.hid (by rw [HY.out.1, List.take_of_length_le (by rw [← HMN.out]; omega), List.take_of_length_le (by rw [← HMN.out]; omega)])
                      have k0 : (0 : Int) ≤ (k : Int) := by omega
                      have k1 : ¬ (k : Int) < (mn : Int) := by omega
                      go_wp2_with fail
                      go_meet
                      exact ⟨ys, vb, vd, qs, rfl, rfl, Lib.hid ⟨HYE.out, hyl⟩, HI⟩
              case rest =>
                obtain ⟨zs, va2, vc2, qs, rfl, rfl, HY, HI⟩ := hcut
                as_aux_lemma =>
                  have HPI := Lib.hid (HP3.out.beside HI.out.grow HCB2.out)
                  have b2 := nST_le zs
                  have b3 := (sumT zs).1
                  have b4 : zs.length ≤ 4 := HY.out.2
                  obtain ⟨x, hx⟩ : ∃ x, x = Tr.mk fo fs ys zs := ⟨_, rfl⟩
                  have CT : Hid (∀ w, Calls Try.prog 30 #[.int .i64 (1 + A0 + nST zs : Nat), .int .i64 (1 + max A1 (dST zs) : Nat)] w fun e w' => e = .returned (.tuple #[.int .i64 (x.tN : Nat), .int .i64 (x.tD : Nat)]) ∧ w' = w) := Lib.hid fun w => by
                    have h := toldT fo fs ys zs
                    rw [← HA01.out.1, ← HA01.out.2] at h
                    have := rtold_any (1 + A0 + nST zs) (1 + max A1 (dST zs)) w
                    rw [h.1, h.2, ← hx] at this
                    exact this
                  have HXX := Lib.hid hx
                  have HTX := Lib.hid (tT_in x)
                  obtain ⟨N0, hN0⟩ : ∃ z, z = 1 + A0 + nST zs := ⟨_, rfl⟩
                  obtain ⟨D0, hD0⟩ : ∃ z, z = 1 + max A1 (dST zs) := ⟨_, rfl⟩
                  obtain ⟨tn, htn⟩ : ∃ z, z = x.tN := ⟨_, rfl⟩
                  obtain ⟨td, htd⟩ : ∃ z, z = x.tD := ⟨_, rfl⟩
                  rw [← hN0, ← hD0, ← htn, ← htd] at CT
                  rw [← hN0, ← hD0]
                  rw [← htn, ← htd] at HTX
                  have HTN := Lib.hid (And.intro htn htd)
                  have b5 : N0 ≤ 9001 := by omega
                  have b6 : D0 ≤ 9001 := by omega
                  clear b2 b3 hx hN0 hD0 htn htd
                  go_upto_region 43 with (go_at_call 30; (with_reducible refine (CT.out _).mono ?_); rintro e w4 ⟨rfl, rfl⟩)
                  have HPW := Lib.hid (HP3.out.list HPI.out HI.out.row (Nat.le_refl _))
                  obtain ⟨S', hS'⟩ : ∃ Z, Z = (fun b => S1 b ∨ (Value.slice va2 zs.length vc2).ownBlock = some b) := ⟨_, rfl⟩
                  have HEX : Hid (QT S' w4 x (.int .i64 fo, .string fs, .slice va yn vc, .slice va2 zs.length vc2)) := Lib.hid (by
                    rw [HXX.out, hS']
                    refine ⟨va, vc, va2, vc2, by rw [HYN.out]; rfl, by show ys.length ≤ vc; rw [← HYN.out]; exact HEX2.out.2, ?_, ?_, ?_⟩
                    · obtain ⟨a1, c1, e, h⟩ := HI.out.row.form
                      injection e with _ e2 e3
                      have := HI.out.len
                      show zs.length ≤ vc2
                      omega
                    · exact HEX2.out.1.stay (fun b hb => .inl hb) fun b hb => HI.out.grow.block b (HSW2.out b hb).1 (fun e => (HSW2.out b hb).2 (by injection e))
                    · exact HI.out.row.toT HI.out.fit)
                  obtain ⟨qs0, hq0, hr0, hf0⟩ := HPW.out.row 3 v3 rfl
                  have hql : qs0.length ≤ 1000 := by rw [hq0]; have := HTL.out; show ts.length ≤ 1000; omega
                  have HQ0 := Lib.hid hq0
                  have t0 : w4.cell? ⟨tb, 3, none⟩ = some v3 := cell_blk HPW.out.box 3
                  obtain ⟨c0, c1, c2, c3⟩ := quad HI.out.box
                  have HA4 := Lib.hid ((Below.refl w4.heap.size w4).alloc (Nat.le_refl _) (.cells #[.int .i64 fo, .string fs, .slice va yn vc, .slice va2 zs.length vc2] 32))
                  have H4A : Hid ((w4.alloc (.cells #[.int .i64 fo, .string fs, .slice va yn vc, .slice va2 zs.length vc2] 32)).heap[w4.heap.size]? = some (.cells #[.int .i64 fo, .string fs, .slice va yn vc, .slice va2 zs.length vc2] 32 (0, 0))) := Lib.hid (heap_alloc_new w4 (.cells #[.int .i64 fo, .string fs, .slice va yn vc, .slice va2 zs.length vc2] 32))
                  have HPA := Lib.hid (HPW.out.next HA4.out)
                  have HF0 := Lib.hid (hf0.imp fun x q hq => hq.stay (fun _ h => h) fun b hb => HA4.out.block b (HPW.out.set b hb).2.1)
                  have HR4 : Hid (Row4 (w4.alloc (.cells #[.int .i64 fo, .string fs, .slice va yn vc, .slice va2 zs.length vc2] 32)) W0.heap.size 32 v3 qs0) := Lib.hid (hr0.stay (fun g hg => HA4.out.block g (hr0.lt hg).1))
                  have HSZ4 : Hid (W0.heap.size ≤ (w4.alloc (.cells #[.int .i64 fo, .string fs, .slice va yn vc, .slice va2 zs.length vc2] 32)).heap.size) := Lib.hid HPA.out.bel.size
                  have t0a : (w4.alloc (.cells #[.int .i64 fo, .string fs, .slice va yn vc, .slice va2 zs.length vc2] 32)).cell? ⟨tb, 3, none⟩ = some v3 := cell_blk HPA.out.box 3
                  clear hq0 hr0 hf0
                  go_cut [] (fun wx => ∃ v3' : Value, Hid (PB W0 tb ⟨S', xs, xs.map Xp.tN, xs.map Xp.tD, ts ++ [x], ts.map Tr.tN, ts.map Tr.tD⟩ [v0, v1, v2, v3', v4, v5] wx))
                  case first =>
                    as_aux_lemma =>
                      go_wp2_with (at_builtin; refine wpList_appR rfl _ _ rfl W0.heap.size v3 qs0 rfl HR4.out w4.heap.size fo fs va va2 yn vc zs.length vc2 rfl H4A.out hql HSZ4.out ?_; intro g' cap' w5 hown hgr hor hgl; have HR5 := Lib.hid hown; have HG5 := Lib.hid hgr; have HO5 := Lib.hid hor; have HL5 := Lib.hid hgl; have HX5 := Lib.hid ((hgr.block tb (lt_of_heap HPA.out.box) (by intro e; have := (HPA.out.own v3 (by simp) tb e.symm).1; have := HPA.out.tbl; omega)).trans HPA.out.box); have e5 : w5.cell? ⟨tb, 3, none⟩ = some v3 := cell_blk HX5.out 3; have f5 : w5.frozen? ⟨tb, 3, none⟩ = false := free_blk HX5.out 3; clear hown hgr hor hgl)
                      all_goals
                        go_meet
                        refine ⟨.slice (some ⟨g', 0, none⟩) (qs0.length + 1) cap', Lib.hid ?_⟩
                        have hx := HEX.out
                        rw [hS'] at hx ⊢
                        exact HPA.out.app3 rfl HQ0.out HF0.out (hx.stay (fun _ h => h) fun b hb => HA4.out.block b (HPW.out.set b hb).2.1) HR5.out HG5.out HO5.out HL5.out
                  case rest =>
                    as_aux_lemma =>
                      obtain ⟨v3', HPC⟩ := hcut
                      clear t0 t0a c0 c1 c2 c3 HA4 H4A HPA HR4 HSZ4
                      go_upto_region 44 with fail
                      have hl1 : (ts.map Tr.tN).length ≤ 1000 := by rw [List.length_map]; have := HTL.out; omega
                      have t1 : wc.cell? ⟨tb, 4, none⟩ = some v4 := cell_blk HPC.out.box 4
                      have HA4 := Lib.hid ((Below.refl wc.heap.size wc).alloc (Nat.le_refl _) (.cells #[.int .i64 (tn : Nat)] 3))
                      have H4A : Hid ((wc.alloc (.cells #[.int .i64 (tn : Nat)] 3)).heap[wc.heap.size]? = some (.cells #[.int .i64 (tn : Nat)] 3 (0, 0))) := Lib.hid (heap_alloc_new wc (.cells #[.int .i64 (tn : Nat)] 3))
                      have HPA := Lib.hid (HPC.out.next HA4.out)
                      have HR4 : Hid ((wc.alloc (.cells #[.int .i64 (tn : Nat)] 3)).ownsRow W0.heap.size 3 1 v4 (ts.map Tr.tN).length (nvs (ts.map Tr.tN))) := Lib.hid (HPA.out.row 4 v4 rfl)
                      have HSZ4 : Hid (W0.heap.size ≤ (wc.alloc (.cells #[.int .i64 (tn : Nat)] 3)).heap.size) := Lib.hid HPA.out.bel.size
                      have t1a : (wc.alloc (.cells #[.int .i64 (tn : Nat)] 3)).cell? ⟨tb, 4, none⟩ = some v4 := cell_blk HPA.out.box 4
                      go_cut [] (fun wx => ∃ v4' : Value, Hid (PB W0 tb ⟨S', xs, xs.map Xp.tN, xs.map Xp.tD, ts ++ [x], ts.map Tr.tN ++ [tn], ts.map Tr.tD⟩ [v0, v1, v2, v3', v4', v5] wx))
                      case first =>
                        as_aux_lemma =>
                          go_wp2_with (at_builtin; refine wpList_appN rfl _ _ rfl W0.heap.size v4 _ _ rfl HR4.out wc.heap.size (tn : Nat) rfl H4A.out hl1 HSZ4.out ?_; intro g' cap' w5 hown hgr hor hgl; have HR5 := Lib.hid hown; have HG5 := Lib.hid hgr; have HO5 := Lib.hid hor; have HL5 := Lib.hid hgl; have HX5 := Lib.hid ((hgr.block tb (lt_of_heap HPA.out.box) (by intro e; have := (HPA.out.own v4 (by simp) tb e.symm).1; have := HPA.out.tbl; omega)).trans HPA.out.box); have e5 : w5.cell? ⟨tb, 4, none⟩ = some v4 := cell_blk HX5.out 4; have f5 : w5.frozen? ⟨tb, 4, none⟩ = false := free_blk HX5.out 4; clear hown hgr hor hgl)
                          all_goals
                            go_meet
                            have hp := HPA.out.app4 (m := tn) rfl HR5.out HG5.out (fun g e => by cases e; exact ⟨HO5.out, HL5.out⟩)
                            simp only [List.length_map] at hp
                            exact ⟨_, Lib.hid hp⟩
                      case rest =>
                        as_aux_lemma =>
                          obtain ⟨v4', HPD⟩ := hcut
                          clear t1 t1a
                          clear HA4 H4A HPA HR4 HSZ4
                          go_upto_region 45 with fail
                          have hl1 : (ts.map Tr.tD).length ≤ 1000 := by rw [List.length_map]; have := HTL.out; omega
                          have t1 : wc.cell? ⟨tb, 5, none⟩ = some v5 := cell_blk HPD.out.box 5
                          have HA4 := Lib.hid ((Below.refl wc.heap.size wc).alloc (Nat.le_refl _) (.cells #[.int .i64 (td : Nat)] 3))
                          have H4A : Hid ((wc.alloc (.cells #[.int .i64 (td : Nat)] 3)).heap[wc.heap.size]? = some (.cells #[.int .i64 (td : Nat)] 3 (0, 0))) := Lib.hid (heap_alloc_new wc (.cells #[.int .i64 (td : Nat)] 3))
                          have HPA := Lib.hid (HPD.out.next HA4.out)
                          have HR4 : Hid ((wc.alloc (.cells #[.int .i64 (td : Nat)] 3)).ownsRow W0.heap.size 3 1 v5 (ts.map Tr.tD).length (nvs (ts.map Tr.tD))) := Lib.hid (HPA.out.row 5 v5 rfl)
                          have HSZ4 : Hid (W0.heap.size ≤ (wc.alloc (.cells #[.int .i64 (td : Nat)] 3)).heap.size) := Lib.hid HPA.out.bel.size
                          have t1a : (wc.alloc (.cells #[.int .i64 (td : Nat)] 3)).cell? ⟨tb, 5, none⟩ = some v5 := cell_blk HPA.out.box 5
                          go_wp2_with (at_builtin; refine wpList_appN rfl _ _ rfl W0.heap.size v5 _ _ rfl HR4.out wc.heap.size (td : Nat) rfl H4A.out hl1 HSZ4.out ?_; intro g' cap' w5 hown hgr hor hgl; have HR5 := Lib.hid hown; have HG5 := Lib.hid hgr; have HO5 := Lib.hid hor; have HL5 := Lib.hid hgl; have HX5 := Lib.hid ((hgr.block tb (lt_of_heap HPA.out.box) (by intro e; have := (HPA.out.own v5 (by simp) tb e.symm).1; have := HPA.out.tbl; omega)).trans HPA.out.box); have e5 : w5.cell? ⟨tb, 5, none⟩ = some v5 := cell_blk HX5.out 5; have f5 : w5.frozen? ⟨tb, 5, none⟩ = false := free_blk HX5.out 5; clear hown hgr hor hgl)
                          all_goals
                            have hp := HPA.out.app5 (m := td) rfl (by simp) HR5.out HG5.out (fun g e => by cases e; exact ⟨HO5.out, HL5.out⟩)
                            simp only [List.length_map] at hp
                            have hmap1 : (ts ++ [x]).map Tr.tN = ts.map Tr.tN ++ [tn] := by rw [List.map_append, HTN.out.1]; rfl
                            have hmap2 : (ts ++ [x]).map Tr.tD = ts.map Tr.tD ++ [td] := by rw [List.map_append, HTN.out.2]; rfl
                            have hxx : x = bldT xs ts ⟨fo, fs, fe, ft⟩ := by rw [HXX.out, HYP.out, HY.out.1]; rfl
                            refine ⟨⟨i + 1, S', v3', v4', .slice (some ⟨g', 0, none⟩) (i + 1) cap', by omega, by go_num, Lib.hid ?_⟩, by simp [intOf]; omega⟩
                            rw [HXS.out, ← hxx, hmap1, hmap2]
                            have hxl : ts.length = i := HTL.out
                            first | (rw [hxl] at hp ⊢; exact hp) | (rw [hxl] at hp; exact hp)
          · have HXE : Hid (bTs xs (ks.take i) = bTs xs ks) := Lib.hid (by rw [List.take_of_length_le (by rw [← HM.out]; omega)])
            have i0 : ¬ (i : Int) < (m : Int) := by omega
            have i2 : (0 : Int) ≤ (i : Int) := by omega
            go_wp2_with fail
            go_meet
            rw [HXE.out] at HP
            exact ⟨S, v3, v4, v5, HP⟩
    case rest =>
      obtain ⟨S2, v3, v4, v5, HPZ⟩ := hcut
      as_aux_lemma =>
        obtain ⟨R, a0, a1, a2, a3, a4, a5, c0, c1, c2, c3, c4, c5, ⟨h0, h1, h2, h3, h4, h5⟩, hbt, hR, hcs⟩ := pb_end HPZ.out
        subst h0 h1 h2 h3 h4 h5
        have HBW : Hid (Below w.heap.size w wc) := Lib.hid (HG.out.grown HPZ.out.bel HG.out.size (fun g hg => by cases hg; have := HZ.out; omega))
        have HRB : Hid (wc.heap[rb]? = some (.cells T0 58 (0, 0))) := Lib.hid ((HPZ.out.bel.block rb (lt_of_heap HB1.out) (by intro e; cases e; have := HZ.out; omega)).trans HB1.out)
        obtain ⟨ts, hts⟩ : ∃ ts, ts = bTs xs ks := ⟨_, rfl⟩
        rw [← hts] at hbt hcs HPZ
        obtain ⟨L2, hL2⟩ : ∃ L, L = ts.length := ⟨_, rfl⟩
        have hbx := HPZ.out.box
        rw [HXN.out, ← hL2] at hbx
        have t0 : wc.cell? ⟨tb, 0, none⟩ = some (.slice a0 L c0) := cell_blk hbx 0
        have t1 : wc.cell? ⟨tb, 1, none⟩ = some (.slice a1 L c1) := cell_blk hbx 1
        have t2 : wc.cell? ⟨tb, 2, none⟩ = some (.slice a2 L c2) := cell_blk hbx 2
        have t3 : wc.cell? ⟨tb, 3, none⟩ = some (.slice a3 L2 c3) := cell_blk hbx 3
        have t4 : wc.cell? ⟨tb, 4, none⟩ = some (.slice a4 L2 c4) := cell_blk hbx 4
        have t5 : wc.cell? ⟨tb, 5, none⟩ = some (.slice a5 L2 c5) := cell_blk hbx 5
        have r0 : wc.cell? ⟨rb, 0, none⟩ = some (.slice none 0 0) := cell_blk HRB.out 0
        have r1 : wc.cell? ⟨rb, 1, none⟩ = some (.slice none 0 0) := cell_blk HRB.out 1
        have r2 : wc.cell? ⟨rb, 2, none⟩ = some (.slice none 0 0) := cell_blk HRB.out 2
        have r3 : wc.cell? ⟨rb, 3, none⟩ = some (.slice none 0 0) := cell_blk HRB.out 3
        have r4 : wc.cell? ⟨rb, 4, none⟩ = some (.slice none 0 0) := cell_blk HRB.out 4
        have r5 : wc.cell? ⟨rb, 5, none⟩ = some (.slice none 0 0) := cell_blk HRB.out 5
        have p0 : wc.frozen? ⟨rb, 0, none⟩ = false := free_blk HRB.out 0
        have p1 : wc.frozen? ⟨rb, 1, none⟩ = false := free_blk HRB.out 1
        have p2 : wc.frozen? ⟨rb, 2, none⟩ = false := free_blk HRB.out 2
        have p3 : wc.frozen? ⟨rb, 3, none⟩ = false := free_blk HRB.out 3
        have p4 : wc.frozen? ⟨rb, 4, none⟩ = false := free_blk HRB.out 4
        have p5 : wc.frozen? ⟨rb, 5, none⟩ = false := free_blk HRB.out 5
        have HBT := Lib.hid hbt
        have HRR := Lib.hid hR
        have HCS := Lib.hid hcs
        have HL2 := Lib.hid hL2
        have HTS := Lib.hid hts
        clear hbt hR hcs hL2 hts hbx
        go_wp2_with fail
        obtain ⟨W, hW⟩ : ∃ W, ((((((wc.setCell ⟨rb, 0, none⟩ (.slice a0 L c0)).setCell ⟨rb, 1, none⟩ (.slice a1 L c1)).setCell ⟨rb, 2, none⟩ (.slice a2 L c2)).setCell ⟨rb, 3, none⟩ (.slice a3 L2 c3)).setCell ⟨rb, 4, none⟩ (.slice a4 L2 c4)).setCell ⟨rb, 5, none⟩ (.slice a5 L2 c5)) = W := ⟨_, rfl⟩
        have hX := six_set wc rb _ _ _ _ _ _ W hW
        have s5 : W.heap[rb]? = some (.cells #[.slice a0 L c0, .slice a1 L c1, .slice a2 L c2, .slice a3 L2 c3, .slice a4 L2 c4, .slice a5 L2 c5] 58 (0, 0)) := by
          rw [← hW]
          have q0 := heap_set_at (i := 0) (.slice a0 L c0) HRB.out
          have q1 := heap_set_at (i := 1) (.slice a1 L c1) q0
          have q2 := heap_set_at (i := 2) (.slice a2 L c2) q1
          have q3 := heap_set_at (i := 3) (.slice a3 L2 c3) q2
          have q4 := heap_set_at (i := 4) (.slice a4 L2 c4) q3
          exact heap_set_at (i := 5) (.slice a5 L2 c5) q4
        have d0 : W.cell? ⟨rb, 0, none⟩ = some (.slice a0 L c0) := cell_blk s5 0
        have d1 : W.cell? ⟨rb, 1, none⟩ = some (.slice a1 L c1) := cell_blk s5 1
        have d2 : W.cell? ⟨rb, 2, none⟩ = some (.slice a2 L c2) := cell_blk s5 2
        have d3 : W.cell? ⟨rb, 3, none⟩ = some (.slice a3 L2 c3) := cell_blk s5 3
        have d4 : W.cell? ⟨rb, 4, none⟩ = some (.slice a4 L2 c4) := cell_blk s5 4
        have d5 : W.cell? ⟨rb, 5, none⟩ = some (.slice a5 L2 c5) := cell_blk s5 5
        rw [hW]
        have hfin : BuildP w (bXs ls) (bTs (bXs ls) ks) (.returned (.agg #[.slice a0 L c0, .slice a1 L c1, .slice a2 L c2, .slice a3 L2 c3, .slice a4 L2 c4, .slice a5 L2 c5])) W := by
          rw [← HXX0.out, ← HTS.out]
          refine ⟨R, a0, a1, a2, a3, a4, a5, c0, c1, c2, c3, c4, c5, by unfold treeV; rw [HXN.out, ← HL2.out], HBT.out.stay (fun _ h => h) (fun b hb => hX.1 b ?_), fun b hb => ⟨?_, ?_⟩, HCS.out, hX.2.2 _ _ (by have := HZ.out; omega) HBW.out⟩
          · have := (HRR.out b hb).1; have := HPZ.out.tbl; have := HZ.out; omega
          · have := (HRR.out b hb).1; have := HPZ.out.tbl; have := HZ.out; omega
          · rw [hX.2.1]; exact (HRR.out b hb).2
        exact bodyPost_ret (v := .agg #[.slice a0 L c0, .slice a1 L c1, .slice a2 L c2, .slice a3 L2 c3, .slice a4 L2 c4, .slice a5 L2 c5]) (by simp [results, Try.results16, go_sem, d0, d1, d2, d3, d4, d5]) rfl hfin
end Go.Proofs.Ythhimllddgfddaa
