/- The law TermSimple, walked. Conditions: those written at each theorem. -/
import Derived.Test.YtepoihokbcoidaaTrT
import Derived.Test.YtepoihokbcoidaaTrW
import Derived.Test.YtepoihokbcoidaaTrO
import Derived.Test.YtepoihokbcoidaaTrL
import Derived.Test.YtepoihokbcoidaaTmP
import Derived.Test.YtepoihokbcoidaaTrX
namespace Go.Proofs.Ytepoihokbcoidaa
open Go.RowKit Go.PlainAid
set_option linter.unusedVariables false
set_option linter.unusedSimpArgs false
set_option maxRecDepth 100000 in
theorem great_yes (n m : Nat) (ao co : Option Addr) (cap kap : Nat) (h : 60 < n ∨ 60 < m) (w : World) : Calls Try.prog 6 #[.slice ao n cap, .slice co m kap] w fun e w' => e = .returned (.bool true) ∧ w' = w := by
  by_cases h1 : (60 : Int) < (n : Int)
  · go_enter Try.func6, Try.ntmps6
    go_wp2_with fail
    go_ret
    exact ⟨rfl, rfl⟩
  · have h2 : (60 : Int) < (m : Int) := by omega
    go_enter Try.func6, Try.ntmps6
    go_wp2_with fail
    go_ret
    exact ⟨rfl, rfl⟩
set_option maxRecDepth 100000 in
theorem great_no (n m : Nat) (ao co : Option Addr) (cap kap : Nat) (h1 : n ≤ 60) (h2 : m ≤ 60) (w : World) : Calls Try.prog 6 #[.slice ao n cap, .slice co m kap] w fun e w' => e = .returned (.bool false) ∧ w' = w := by
  have h3 : ¬ (60 : Int) < (n : Int) := by omega
  have h4 : ¬ (60 : Int) < (m : Int) := by omega
  go_enter Try.func6, Try.ntmps6
  go_wp2_with fail
  go_ret
  exact ⟨rfl, rfl⟩
/-- A new box of six. -/
theorem six_zero (w : World) (o : Obj) (ho : o = .cells T0 30) : ((w.alloc o).cell? ⟨w.heap.size, 0, none⟩ = some (.slice none 0 0) ∧ (w.alloc o).cell? ⟨w.heap.size, 1, none⟩ = some (.slice none 0 0) ∧ (w.alloc o).cell? ⟨w.heap.size, 2, none⟩ = some (.slice none 0 0) ∧ (w.alloc o).cell? ⟨w.heap.size, 3, none⟩ = some (.slice none 0 0) ∧ (w.alloc o).cell? ⟨w.heap.size, 4, none⟩ = some (.slice none 0 0) ∧ (w.alloc o).cell? ⟨w.heap.size, 5, none⟩ = some (.slice none 0 0)) ∧ (w.alloc o).frozen? ⟨w.heap.size, 0, none⟩ = false ∧ (w.alloc o).frozen? ⟨w.heap.size, 1, none⟩ = false ∧ (w.alloc o).frozen? ⟨w.heap.size, 2, none⟩ = false ∧ (w.alloc o).frozen? ⟨w.heap.size, 3, none⟩ = false ∧ (w.alloc o).frozen? ⟨w.heap.size, 4, none⟩ = false ∧ (w.alloc o).frozen? ⟨w.heap.size, 5, none⟩ = false := by
  subst ho
  exact ⟨⟨World.cell?_alloc_at _ _ _ _ rfl, World.cell?_alloc_at _ _ _ _ rfl, World.cell?_alloc_at _ _ _ _ rfl, World.cell?_alloc_at _ _ _ _ rfl, World.cell?_alloc_at _ _ _ _ rfl, World.cell?_alloc_at _ _ _ _ rfl⟩, World.frozen?_alloc_at _ _ _ _ rfl, World.frozen?_alloc_at _ _ _ _ rfl, World.frozen?_alloc_at _ _ _ _ rfl, World.frozen?_alloc_at _ _ _ _ rfl, World.frozen?_alloc_at _ _ _ _ rfl, World.frozen?_alloc_at _ _ _ _ rfl⟩
/-- The Tree in a box of the law's. -/
structure LawT (R : Nat → Prop) (xs : List Xp) (ts : List Tr) (a0 a1 a2 a3 a4 a5 : Option Addr) (c0 c1 c2 c3 c4 c5 L L2 tb : Nat) (w W0 : World) : Prop where
  bt : BuiltAt R xs ts a0 a1 a2 a3 a4 a5 W0
  below : ∀ b, R b → b < W0.heap.size
  box : W0.heap[tb]? = some (.cells #[.slice a0 L c0, .slice a1 L c1, .slice a2 L c2, .slice a3 L2 c3, .slice a4 L2 c4, .slice a5 L2 c5] 30 (0, 0))
  bel : Below w.heap.size w W0
  len : xs.length = L ∧ ts.length = L2
theorem LawT.next {R : Nat → Prop} {xs : List Xp} {ts : List Tr} {a0 a1 a2 a3 a4 a5 : Option Addr} {c0 c1 c2 c3 c4 c5 L L2 tb : Nat} {w W0 W : World} (h : LawT R xs ts a0 a1 a2 a3 a4 a5 c0 c1 c2 c3 c4 c5 L L2 tb w W0) (k : Below W0.heap.size W0 W) : LawT R xs ts a0 a1 a2 a3 a4 a5 c0 c1 c2 c3 c4 c5 L L2 tb w W :=
  ⟨h.bt.stay (fun _ h => h) fun b hb => k.block b (h.below b hb), fun b hb => Nat.lt_of_lt_of_le (h.below b hb) k.size, (k.block tb (lt_of_heap h.box)).trans h.box, below_mono h.bel k (Nat.le_refl _), h.len⟩
theorem LawT.cells {R : Nat → Prop} {xs : List Xp} {ts : List Tr} {a0 a1 a2 a3 a4 a5 : Option Addr} {c0 c1 c2 c3 c4 c5 L L2 tb : Nat} {w W0 : World} (h : LawT R xs ts a0 a1 a2 a3 a4 a5 c0 c1 c2 c3 c4 c5 L L2 tb w W0) : W0.cell? ⟨tb, 0, none⟩ = some (.slice a0 L c0) ∧ W0.cell? ⟨tb, 1, none⟩ = some (.slice a1 L c1) ∧ W0.cell? ⟨tb, 2, none⟩ = some (.slice a2 L c2) ∧ W0.cell? ⟨tb, 3, none⟩ = some (.slice a3 L2 c3) ∧ W0.cell? ⟨tb, 4, none⟩ = some (.slice a4 L2 c4) ∧ W0.cell? ⟨tb, 5, none⟩ = some (.slice a5 L2 c5) :=
  ⟨cell_blk h.box 0, cell_blk h.box 1, cell_blk h.box 2, cell_blk h.box 3, cell_blk h.box 4, cell_blk h.box 5⟩
theorem lawT_made {w w1 : World} {R : Nat → Prop} {xs : List Xp} {ts : List Tr} {a0 a1 a2 a3 a4 a5 : Option Addr} {c0 c1 c2 c3 c4 c5 L L2 : Nat} (hbt : BuiltAt R xs ts a0 a1 a2 a3 a4 a5 w1) (hR : ∀ b, R b → w.heap.size ≤ b ∧ b < w1.heap.size) (hb : Below w.heap.size w w1) (h1 : xs.length = L) (h2 : ts.length = L2) : ∀ W0, w1.alloc (.cells #[.slice a0 L c0, .slice a1 L c1, .slice a2 L c2, .slice a3 L2 c3, .slice a4 L2 c4, .slice a5 L2 c5] 30) = W0 → LawT R xs ts a0 a1 a2 a3 a4 a5 c0 c1 c2 c3 c4 c5 L L2 w1.heap.size w W0 := by
  rintro W0 rfl
  have hk := (Below.refl w1.heap.size w1).alloc (Nat.le_refl _) (.cells #[.slice a0 L c0, .slice a1 L c1, .slice a2 L c2, .slice a3 L2 c3, .slice a4 L2 c4, .slice a5 L2 c5] 30)
  exact ⟨hbt.stay (fun _ h => h) fun b h => hk.block b (hR b h).2, fun b h => Nat.lt_of_lt_of_le (hR b h).2 hk.size, heap_alloc_new _ _, below_mono hb hk (Nat.le_refl _), h1, h2⟩
/-- A box of four in a new block. -/
theorem four_made (v0 v1 v2 v3 : Value) (T : TypeId) (w : World) : ∀ W, w.alloc (.cells #[v0, v1, v2, v3] T) = W → Below w.heap.size w W ∧ W.heap[w.heap.size]? = some (.cells #[v0, v1, v2, v3] T (0, 0)) ∧ W.heap.size = w.heap.size + 1 := by
  rintro W rfl
  exact ⟨(Below.refl w.heap.size w).alloc (Nat.le_refl _) _, heap_alloc_new w _, by simp⟩
theorem four_set (wr : World) (rb : Nat) (x0 x1 x2 x3 : Value) (o : Array Value) (T : TypeId) (ho : ∃ y0 y1 y2 y3, o = #[y0, y1, y2, y3]) (hb : wr.heap[rb]? = some (.cells o T (0, 0))) : ∀ W, ((((wr.setCell ⟨rb, 0, none⟩ x0).setCell ⟨rb, 1, none⟩ x1).setCell ⟨rb, 2, none⟩ x2).setCell ⟨rb, 3, none⟩ x3) = W → Below rb wr W ∧ (∀ b, b ≠ rb → W.heap[b]? = wr.heap[b]?) ∧ W.heap.size = wr.heap.size ∧ W.heap[rb]? = some (.cells #[x0, x1, x2, x3] T (0, 0)) := by
  rintro W rfl
  obtain ⟨y0, y1, y2, y3, rfl⟩ := ho
  refine ⟨?_, fun b hb => ?_, by simp, ?_⟩
  · exact ((((Below.refl rb wr).setCell (p := ⟨rb, 0, none⟩) (Nat.le_refl _) _).setCell (p := ⟨rb, 1, none⟩) (Nat.le_refl _) _).setCell (p := ⟨rb, 2, none⟩) (Nat.le_refl _) _).setCell (p := ⟨rb, 3, none⟩) (Nat.le_refl _) _
  · exact (Below.heap_setCell _ _ _ _ hb).trans ((Below.heap_setCell _ _ _ _ hb).trans ((Below.heap_setCell _ _ _ _ hb).trans (Below.heap_setCell _ _ _ _ hb)))
  · have q0 := heap_set_at (i := 0) x0 hb
    have q1 := heap_set_at (i := 1) x1 q0
    have q2 := heap_set_at (i := 2) x2 q1
    exact heap_set_at (i := 3) x3 q2
set_option maxRecDepth 100000 in
set_option maxHeartbeats 8000000 in
theorem termSimple_walk {ls : List Lf} {ks : List Kn} {ao co : Option Addr} {cap kap : Nat} (w : World) (hl : LfAt w.heap.size ao ls w) (hk : KnAt w.heap.size co ks w) (hfl : ∀ f ∈ ls, f.nm.size ≤ maxLen) (hfk : ∀ f ∈ ks, f.nm.size ≤ maxLen) :
    Calls Try.prog 3 #[.slice ao ls.length cap, .slice co ks.length kap] w fun e w' => e = .returned (.bool true) ∧ Below w.heap.size w w' := by
  have CA := Lib.hid awake_any
  by_cases hg : 60 < ls.length ∨ 60 < ks.length
  · have CG := Lib.hid (great_yes ls.length ks.length ao co cap kap hg)
    obtain ⟨n, hn⟩ : ∃ n, n = ls.length := ⟨_, rfl⟩
    obtain ⟨m, hm⟩ : ∃ n, n = ks.length := ⟨_, rfl⟩
    rw [← hn, ← hm] at CG ⊢
    clear hg hn hm hl hk hfl hfk
    go_enter Try.func3, Try.ntmps3
    go_wp2_with (first | (go_at_call 6; (with_reducible refine (CG.out _).mono ?_); rintro e w1 ⟨rfl, rfl⟩) | (go_at_call 7; (with_reducible refine (CA.out _).mono ?_); rintro e W1 ⟨rfl, hB⟩; have HB := Lib.hid hB; clear hB))
    go_ret
    exact ⟨rfl, HB.out⟩
  · have CG := Lib.hid (great_no ls.length ks.length ao co cap kap (by omega) (by omega))
    have CB := Lib.hid (rbuild_any (cap := cap) (kap := kap) w hl hk (by omega) (by omega))
    have hxl := bXs_len ls ls.length (Nat.le_refl _)
    have hxf := bXs_fit ls hfl ls.length (Nat.le_refl _)
    rw [List.take_length] at hxl hxf
    have htl := bTs_len (bXs ls) ks ks.length (Nat.le_refl _)
    have htf := bTs_fit (bXs ls) hxf ks hfk ks.length (Nat.le_refl _)
    rw [List.take_length] at htl htf
    obtain ⟨xs, hxs⟩ : ∃ xs, xs = bXs ls := ⟨_, rfl⟩
    rw [← hxs] at CB hxl hxf htl htf
    obtain ⟨ts, hts⟩ : ∃ ts, ts = bTs xs ks := ⟨_, rfl⟩
    rw [← hts] at CB htl htf
    obtain ⟨n, hn⟩ : ∃ n, n = ls.length := ⟨_, rfl⟩
    obtain ⟨m, hm⟩ : ∃ n, n = ks.length := ⟨_, rfl⟩
    rw [← hn, ← hm] at CG CB hg ⊢
    rw [← hn] at hxl
    rw [← hm] at htl
    obtain ⟨L, hL⟩ : ∃ L, L = xs.length := ⟨_, rfl⟩
    obtain ⟨L2, hL2⟩ : ∃ L, L = ts.length := ⟨_, rfl⟩
    have HLX := Lib.hid hL.symm
    have HLT := Lib.hid hL2.symm
    have hL60 : L2 ≤ 60 := by omega
    have HTF := Lib.hid htf
    have H60 : Hid (ts.length ≤ 60) := Lib.hid (by omega)
    clear hg hl hk hfl hfk hxl hxf htl htf hxs hts hn hm hL hL2
    go_enter Try.func3, Try.ntmps3
    go_upto_region 4 with (first | (go_at_call 6; (with_reducible refine (CG.out _).mono ?_); rintro e w1 ⟨rfl, rfl⟩) | (go_at_call 8; (with_reducible refine CB.out.mono ?_); rintro e w1 ⟨R, a0, a1, a2, a3, a4, a5, c0, c1, c2, c3, c4, c5, he, hbt, hR, hcs, hb⟩; obtain rfl : e = Ending.returned (.agg #[.slice a0 L c0, .slice a1 L c1, .slice a2 L c2, .slice a3 L2 c3, .slice a4 L2 c4, .slice a5 L2 c5]) := (by rw [he]; unfold treeV; rw [HLX.out, HLT.out]); have HMD := Lib.hid (lawT_made (c0 := c0) (c1 := c1) (c2 := c2) (c3 := c3) (c4 := c4) (c5 := c5) hbt hR hb HLX.out HLT.out); clear he hbt hR hb hcs; obtain ⟨⟨r0, r1, r2, r3, r4, r5⟩, p0, p1, p2, p3, p4, p5⟩ := six_zero w1 _ rfl))
    clear r0 r1 r2 r3 r4 r5 p0 p1 p2 p3 p4 p5 CB CG
    obtain ⟨W0, hW⟩ : ∃ X, w1.alloc (.cells #[.slice a0 L c0, .slice a1 L c1, .slice a2 L c2, .slice a3 L2 c3, .slice a4 L2 c4, .slice a5 L2 c5] 30) = X := ⟨_, rfl⟩
    have HT := Lib.hid (HMD.out W0 hW)
    obtain ⟨tb, htb⟩ : ∃ z, z = w1.heap.size := ⟨_, rfl⟩
    rw [hW, ← htb]
    rw [← htb] at HT
    clear HMD hW htb
    go_upto_region 5 with fail
    go_loopw [6] (fun v wr => ∃ i : Nat, i ≤ L2 ∧ v = .int .i64 i ∧ Hid (Below W0.heap.size W0 wr)) (fun v _ => L2 - (intOf v).toNat)
    case atStart => exact ⟨0, by omega, rfl, Lib.hid (Below.refl _ _)⟩
    case round =>
      obtain ⟨i, hi, rfl, HW⟩ := hrel
      have HTW := Lib.hid (HT.out.next HW.out)
      obtain ⟨t0, t1, t2, t3, t4, t5⟩ := HTW.out.cells
      have i2 : (0 : Int) ≤ (i : Int) := by omega
      by_cases hlt : i < L2
      · obtain ⟨x, hx⟩ : ∃ x, ts[i]? = some x := ⟨_, List.getElem?_eq_getElem (by rw [HLT.out]; exact hlt)⟩
        have hfx := HTF.out x (List.mem_of_getElem? hx)
        have hrg := tT_rgt x
        obtain ⟨b4, rfl, hr4, hm⟩ := HTW.out.bt.much.get (i := i) (x := x.tN) (by simp [hx])
        obtain ⟨a, eo, ek, to', tk, rfl, hra, hek, htk, ⟨y0, y1, y2, y3⟩, hex, hte⟩ := HTW.out.bt.terms.get hx
        have HOK : Hid (TrOk R wr x eo ek to' tk) := Lib.hid ⟨hek, htk, hex, hte⟩
        have i1 : (i : Int) < (L2 : Int) := by omega
        by_cases hbig : (200 : Int) < (x.tN : Int)
        · clear hx hfx hrg hex hte hek htk y0 y1 y2 y3
          obtain ⟨N, hN⟩ : ∃ z, z = x.tN := ⟨_, rfl⟩
          rw [← hN] at hm hbig
          clear hN
          go_wp2_with fail
          go_roundw
          case rel => exact ⟨i + 1, by omega, by go_num, HW⟩
          case measure => simp [intOf]; omega
        · have hcnt : x.cnt < 1000 := by have := (hrg.1 (by omega)).1; omega
          have CS : Hid (Calls Try.prog 9 #[trV x eo ek to' tk] wr (SimPost R wr x.smp)) := Lib.hid (tsimple_any x eo ek to' tk wr HTW.out.below HOK.out hfx hcnt)
          have CR : Hid (∀ W, Below wr.heap.size wr W → Calls Try.prog 10 #[.agg #[.slice a0 L c0, .slice a1 L c1, .slice a2 L c2, .slice (some a) L2 c3, .slice (some b4) L2 c4, .slice a5 L2 c5], .int .i64 i] W fun e w' => e = .returned (.bool x.rgt) ∧ Below W.heap.size W w') := Lib.hid fun W hW => by
            have h := HTW.out.next hW
            have := rtright_any (c0 := c0) (c1 := c1) (c2 := c2) (c3 := c3) (c4 := c4) (c5 := c5) W h.below h.bt H60.out hx hfx
            unfold treeV at this
            rw [HLX.out, HLT.out] at this
            exact this
          have CQ : Hid (x.rgt = true → ∀ W, Below wr.heap.size wr W → Calls Try.prog 11 #[trV x eo ek to' tk] W (SimPost R W x.sim)) := Lib.hid fun h W hW => rsimple_any HTW.out.below x eo ek to' tk W hW.size (rgt_blt h) (HOK.out.next HTW.out.below hW)
          have CM : Hid (∀ (W : World) (p : Option Addr) (pk : Nat) (q : Option Addr) (qk : Nat) (p' : Option Addr) (pk' : Nat) (q' : Option Addr) (qk' : Nat) (z : Tr), z.cnt < 1000 → TrOk (fun b => b < W.heap.size) W z p pk q qk → TrOk (fun b => b < W.heap.size) W z p' pk' q' qk' → Calls Try.prog 12 #[trV z p pk q qk, trV z p' pk' q' qk'] W fun e w' => e = .returned (.bool true) ∧ Below W.heap.size W w') := Lib.hid fun W p pk q qk p' pk' q' qk' z h h1 h2 => rsameT_any (S := fun b => b < W.heap.size) (B := W.heap.size) (fun _ h => h) z p pk q qk p' pk' q' qk' W (Nat.le_refl _) h h1 h2
          have HCN : Hid (x.smp.cnt < 1000) := Lib.hid (by have := (smp_cnt x).1; omega)
          have HSM : Hid (x.smp = if x.rgt = true then x.sim else x) := Lib.hid rfl
          obtain ⟨N, hN⟩ : ∃ z, z = x.tN := ⟨_, rfl⟩
          rw [← hN] at hm hbig
          obtain ⟨xo, hxo⟩ : ∃ v, v = x.op := ⟨_, rfl⟩
          obtain ⟨xn, hxn⟩ : ∃ v, v = x.nm := ⟨_, rfl⟩
          obtain ⟨m1, hm1⟩ : ∃ m, m = x.exprs.length := ⟨_, rfl⟩
          obtain ⟨m2, hm2⟩ : ∃ m, m = x.terms.length := ⟨_, rfl⟩
          have hxe : trV x eo ek to' tk = .agg #[.int .i64 xo, .string xn, .slice eo m1 ek, .slice to' m2 tk] := by rw [hm1, hm2, hxo, hxn]
          have HXE := Lib.hid hxe
          rw [hxe] at CS CQ
          rw [← hxo] at y0
          rw [← hxn] at y1
          rw [← hm1] at y2
          rw [← hm2] at y3
          obtain ⟨so, hso⟩ : ∃ v, v = x.smp.op := ⟨_, rfl⟩
          obtain ⟨ss, hss⟩ : ∃ v, v = x.smp.nm := ⟨_, rfl⟩
          obtain ⟨se, hse⟩ : ∃ v, v = x.smp.exprs.length := ⟨_, rfl⟩
          obtain ⟨st, hst⟩ : ∃ v, v = x.smp.terms.length := ⟨_, rfl⟩
          have HSV : Hid (∀ p pk q qk, trV x.smp p pk q qk = .agg #[.int .i64 so, .string ss, .slice p se pk, .slice q st qk]) := Lib.hid fun p pk q qk => by rw [hso, hss, hse, hst]
          obtain ⟨rg, hrgt⟩ : ∃ v, v = x.rgt := ⟨_, rfl⟩
          rw [← hrgt] at CR CQ HSM
          have HCELL : Hid (∀ W, Below wr.heap.size wr W → (W.cell? (a.add (i * 4)) = some (.int .i64 xo) ∧ W.cell? ⟨(a.add (i * 4)).block, (a.add (i * 4)).off + 1, none⟩ = some (.string xn) ∧ W.cell? ⟨(a.add (i * 4)).block, (a.add (i * 4)).off + 2, none⟩ = some (.slice eo m1 ek) ∧ W.cell? ⟨(a.add (i * 4)).block, (a.add (i * 4)).off + 3, none⟩ = some (.slice to' m2 tk))) := Lib.hid fun W hW => by
            have ha : (a.add (i * 4)).block < wr.heap.size := by rw [add_block]; exact HTW.out.below _ hra
            exact ⟨(hW.cell (p := a.add (i * 4)) ha).trans y0, (hW.cell (p := ⟨(a.add (i * 4)).block, (a.add (i * 4)).off + 1, none⟩) ha).trans y1, (hW.cell (p := ⟨(a.add (i * 4)).block, (a.add (i * 4)).off + 2, none⟩) ha).trans y2, (hW.cell (p := ⟨(a.add (i * 4)).block, (a.add (i * 4)).off + 3, none⟩) ha).trans y3⟩
          have HFM := Lib.hid (four_made)
          clear hso hss hse hst hrgt hxo hxn hm1 hm2 hxe hx hfx hrg hex hte hek htk hN hr4
          go_upto_region 9 with (go_at_call 9; (with_reducible refine CS.out.mono ?_); rintro e w3 ⟨⟨eo3, ek3, tb3, tk3, he, hok⟩, hb⟩; rw [HSV.out] at he; subst he; have HO3 := Lib.hid hok; have HB3 := Lib.hid hb; clear hok hb; obtain ⟨⟨r0, r1, r2, r3⟩, p0, p1, p2, p3⟩ := new_zero w3 (.int .i64 0) (.string ⟨#[]⟩) (.slice none 0 0) (.slice none 0 0) 33)
          clear r0 r1 r2 r3 p0 p1 p2 p3 y0 y1 y2 y3 t0 t1 t2 t3 t4 t5
          obtain ⟨W4, hW4⟩ : ∃ X, w3.alloc (.cells #[.int .i64 so, .string ss, .slice eo3 se ek3, .slice tb3 st tk3] 33) = X := ⟨_, rfl⟩
          obtain ⟨k4, b4', s4⟩ := HFM.out _ _ _ _ _ w3 W4 hW4
          obtain ⟨z7, hz7⟩ : ∃ z, z = w3.heap.size := ⟨_, rfl⟩
          rw [hW4, ← hz7]
          rw [← hz7] at b4'
          have HB4 := Lib.hid (below_mono HB3.out k4 (Nat.le_refl _))
          have HX7 := Lib.hid b4'
          have HZ7 := Lib.hid (And.intro hz7 s4)
          have HK4 := Lib.hid k4
          obtain ⟨y0, y1, y2, y3⟩ := HCELL.out W4 HB4.out
          obtain ⟨t0, t1, t2, t3, t4, t5⟩ := (HTW.out.next HB4.out).cells
          clear hW4 k4 b4' s4 hz7
          obtain ⟨⟨r0, r1, r2, r3⟩, p0, p1, p2, p3⟩ := new_zero W4 (.int .i64 0) (.string ⟨#[]⟩) (.slice none 0 0) (.slice none 0 0) 33
          go_upto_region 10 with fail
          clear r0 r1 r2 r3 p0 p1 p2 p3 y0 y1 y2 y3 t0 t1 t2 t3 t4 t5
          obtain ⟨W5, hW5⟩ : ∃ X, W4.alloc (.cells #[.int .i64 xo, .string xn, .slice eo m1 ek, .slice to' m2 tk] 33) = X := ⟨_, rfl⟩
          obtain ⟨k5, b5', s5⟩ := HFM.out _ _ _ _ _ W4 W5 hW5
          obtain ⟨z8, hz8⟩ : ∃ z, z = W4.heap.size := ⟨_, rfl⟩
          rw [hW5, ← hz8]
          rw [← hz8] at b5'
          have HB5 := Lib.hid (below_mono HB4.out k5 (Nat.le_refl _))
          have HX8 := Lib.hid b5'
          have HZ8 := Lib.hid (And.intro hz8 s5)
          have HK5 := Lib.hid k5
          have HX7b := Lib.hid ((k5.block z7 (lt_of_heap HX7.out)).trans HX7.out)
          obtain ⟨t0, t1, t2, t3, t4, t5⟩ := (HTW.out.next HB5.out).cells
          clear hW5 k5 b5' s5 hz8
          have CR5 := Lib.hid (CR.out W5 HB5.out)
          cases rg with
          | false =>
            go_upto_region 12 with (go_at_call 10; (with_reducible refine CR5.out.mono ?_); rintro e w6 ⟨rfl, hb⟩; have HB6 := Lib.hid hb; clear hb)
            obtain ⟨c0, c1, c2, c3⟩ := quad ((HB6.out.block z7 (lt_of_heap HX7b.out)).trans HX7b.out)
            obtain ⟨d0, d1, d2, d3⟩ := quad ((HB6.out.block z8 (lt_of_heap HX8.out)).trans HX8.out)
            have HW6 := Lib.hid (below_mono HB5.out HB6.out (Nat.le_refl _))
            have hsx : x.smp = x := by rw [HSM.out]; simp
            have CM6 : Hid (Calls Try.prog 12 #[.agg #[.int .i64 so, .string ss, .slice eo3 se ek3, .slice tb3 st tk3], .agg #[.int .i64 xo, .string xn, .slice eo m1 ek, .slice to' m2 tk]] w6 fun e w' => e = .returned (.bool true) ∧ Below w6.heap.size w6 w') := Lib.hid (by
              have h1 : TrOk (fun b => b < w6.heap.size) w6 x.smp eo3 ek3 tb3 tk3 := (HO3.out).stay (fun b hb => ?_) (fun b hb => ?_)
              have h2 : TrOk (fun b => b < w6.heap.size) w6 x eo ek to' tk := (HOK.out.stay (fun b hb => Nat.lt_of_lt_of_le (HTW.out.below b hb) HW6.out.size) fun b hb => HW6.out.block b (HTW.out.below b hb))
              rw [← HSV.out, ← HXE.out]
              rw [hsx] at h1 ⊢
              exact CM.out w6 _ _ _ _ _ _ _ _ x hcnt h1 h2
              all_goals
                have hlt3 : b < w3.heap.size := by
                  rcases hb with h | h
                  · exact Nat.lt_of_lt_of_le (HTW.out.below b h) HB3.out.size
                  · exact h.2
              · have h1 := HK4.out.size; have h2 := HK5.out.size; have h3 := HB6.out.size; show b < w6.heap.size; omega
              · exact (HB6.out.block b (by have h1 := HK4.out.size; have h2 := HK5.out.size; omega)).trans ((HK5.out.block b (by have h1 := HK4.out.size; omega)).trans (HK4.out.block b hlt3)))
            clear t0 t1 t2 t3 t4 t5
            go_wp2_with (go_at_call 12; (with_reducible refine CM6.out.mono ?_); rintro e w8 ⟨rfl, hb⟩; have HB8 := Lib.hid hb; clear hb)
            go_roundw
            case rel => exact ⟨i + 1, by omega, by go_num, Lib.hid (below_mono HW.out (below_mono HW6.out HB8.out (Nat.le_refl _)) (Nat.le_refl _))⟩
            case measure => simp [intOf]; omega
          | true =>
            have hsx : x.smp = x.sim := by rw [HSM.out]; simp
            rw [← hsx] at CQ
            have CQ2 := Lib.hid (CQ.out rfl)
            go_upto_region 11 with (go_at_call 10; (with_reducible refine CR5.out.mono ?_); rintro e w6 ⟨rfl, hb⟩; have HB6 := Lib.hid hb; clear hb)
            have HW6 := Lib.hid (below_mono HB5.out HB6.out (Nat.le_refl _))
            have HX86 := Lib.hid ((HB6.out.block z8 (lt_of_heap HX8.out)).trans HX8.out)
            have HX76 := Lib.hid ((HB6.out.block z7 (lt_of_heap HX7b.out)).trans HX7b.out)
            obtain ⟨d0, d1, d2, d3⟩ := quad HX86.out
            clear t0 t1 t2 t3 t4 t5
            go_upto_region 12 with (go_at_call 11; (with_reducible refine (CQ2.out _ HW6.out).mono ?_); rintro e w7 ⟨⟨eo7, ek7, tb7, tk7, he, hok⟩, hb⟩; rw [HSV.out] at he; subst he; have HO7 := Lib.hid hok; have HB7 := Lib.hid hb; clear d0 d1 d2 d3; obtain ⟨d0, d1, d2, d3⟩ := quad ((hb.block z8 (lt_of_heap HX86.out)).trans HX86.out); have p0 : w7.frozen? ⟨z8, 0, none⟩ = false := free_blk ((hb.block z8 (lt_of_heap HX86.out)).trans HX86.out) 0; have p1 : w7.frozen? ⟨z8, 1, none⟩ = false := free_blk ((hb.block z8 (lt_of_heap HX86.out)).trans HX86.out) 1; have p2 : w7.frozen? ⟨z8, 2, none⟩ = false := free_blk ((hb.block z8 (lt_of_heap HX86.out)).trans HX86.out) 2; have p3 : w7.frozen? ⟨z8, 3, none⟩ = false := free_blk ((hb.block z8 (lt_of_heap HX86.out)).trans HX86.out) 3; clear hok hb)
            have HX87 := Lib.hid ((HB7.out.block z8 (lt_of_heap HX86.out)).trans HX86.out)
            have HX77 := Lib.hid ((HB7.out.block z7 (lt_of_heap HX76.out)).trans HX76.out)
            have HS8 := Lib.hid (four_set w7 z8 (.int .i64 so) (.string ss) (.slice eo7 se ek7) (.slice tb7 st tk7) _ _ ⟨_, _, _, _, rfl⟩ HX87.out)
            clear d0 d1 d2 d3 p0 p1 p2 p3
            obtain ⟨W9, hW9⟩ : ∃ X, ((((w7.setCell ⟨z8, 0, none⟩ (.int .i64 so)).setCell ⟨z8, 1, none⟩ (.string ss)).setCell ⟨z8, 2, none⟩ (.slice eo7 se ek7)).setCell ⟨z8, 3, none⟩ (.slice tb7 st tk7)) = X := ⟨_, rfl⟩
            obtain ⟨k9, f9, s9, x9⟩ := HS8.out W9 hW9
            rw [hW9]
            have HF9 := Lib.hid f9
            have HSZ9 := Lib.hid s9
            have HK9 := Lib.hid k9
            obtain ⟨d0, d1, d2, d3⟩ := quad x9
            have z78 : z7 ≠ z8 := by have h1 := HZ7.out; have h2 := HZ8.out; omega
            obtain ⟨c0, c1, c2, c3⟩ := quad ((f9 z7 z78).trans HX77.out)
            have HW7 := Lib.hid (below_mono HW6.out HB7.out (Nat.le_refl _))
            have HW9 : Hid (Below wr.heap.size wr W9) := Lib.hid (by
              rw [← hW9]
              have hz8 : wr.heap.size ≤ z8 := by have h2 := HZ8.out.1; have := HB4.out.size; omega
              exact (((HW7.out.setCell (p := ⟨z8, 0, none⟩) hz8 _).setCell (p := ⟨z8, 1, none⟩) hz8 _).setCell (p := ⟨z8, 2, none⟩) hz8 _).setCell (p := ⟨z8, 3, none⟩) hz8 _)
            clear hW9 k9 f9 s9 x9
            have CM9 : Hid (Calls Try.prog 12 #[.agg #[.int .i64 so, .string ss, .slice eo3 se ek3, .slice tb3 st tk3], .agg #[.int .i64 so, .string ss, .slice eo7 se ek7, .slice tb7 st tk7]] W9 fun e w' => e = .returned (.bool true) ∧ Below W9.heap.size W9 w') := Lib.hid (by
              have h37 : ∀ b, b < w3.heap.size → b < w7.heap.size ∧ b ≠ z8 ∧ w7.heap[b]? = w3.heap[b]? := fun b hb => by
                have h1 := HK4.out.size
                have h2 := HK5.out.size
                have h3 := HB6.out.size
                have h4 := HB7.out.size
                have h5 := HZ8.out.1
                exact ⟨by omega, by omega, (HB7.out.block b (by omega)).trans ((HB6.out.block b (by omega)).trans ((HK5.out.block b (by omega)).trans (HK4.out.block b hb)))⟩
              have h1 : TrOk (fun b => b < W9.heap.size) W9 x.smp eo3 ek3 tb3 tk3 := HO3.out.stay (fun b hb => by
                have hlt3 : b < w3.heap.size := by
                  rcases hb with h | h
                  · exact Nat.lt_of_lt_of_le (HTW.out.below b h) HB3.out.size
                  · exact h.2
                show b < W9.heap.size
                rw [HSZ9.out]; exact (h37 b hlt3).1) (fun b hb => by
                have hlt3 : b < w3.heap.size := by
                  rcases hb with h | h
                  · exact Nat.lt_of_lt_of_le (HTW.out.below b h) HB3.out.size
                  · exact h.2
                exact (HF9.out b (h37 b hlt3).2.1).trans (h37 b hlt3).2.2)
              have h2 : TrOk (fun b => b < W9.heap.size) W9 x.smp eo7 ek7 tb7 tk7 := HO7.out.stay (fun b hb => by
                show b < W9.heap.size
                rw [HSZ9.out]
                rcases hb with h | h
                · exact Nat.lt_of_lt_of_le (HTW.out.below b h) HW7.out.size
                · exact h.2) (fun b hb => HF9.out b (by
                rcases hb with h | h
                · have h1 := HTW.out.below b h; have h2 := HZ8.out.1; have := HB4.out.size; omega
                · have h1 := h.1; have h2 := HB6.out.size; have h3 := HZ8.out; omega))
              rw [← HSV.out, ← HSV.out]
              exact CM.out W9 _ _ _ _ _ _ _ _ x.smp HCN.out h1 h2)
            go_wp2_with (go_at_call 12; (with_reducible refine CM9.out.mono ?_); rintro e w8 ⟨rfl, hb⟩; have HB8 := Lib.hid hb; clear hb)
            go_roundw
            case rel => exact ⟨i + 1, by omega, by go_num, Lib.hid (below_mono HW.out (below_mono HW9.out HB8.out (Nat.le_refl _)) (Nat.le_refl _))⟩
            case measure => simp [intOf]; omega
      · have i1 : ¬ (i : Int) < (L2 : Int) := by omega
        have HBE := Lib.hid (HTW.out.bel)
        go_wp2_with (go_at_call 7; (with_reducible refine (CA.out _).mono ?_); rintro e W1 ⟨rfl, hB⟩; have HB := Lib.hid hB; clear hB)
        go_ret
        exact ⟨rfl, below_mono HBE.out HB.out (Nat.le_refl _)⟩
end Go.Proofs.Ytepoihokbcoidaa
