/- Trees: the program's Simple of any term; earlier nodes; nodes and depth as they are told. Conditions: those written at each theorem. -/
import Derived.Test.YtepoihokbcoidaaTrK
namespace Go.Proofs.Ytepoihokbcoidaa
open Go.RowKit Go.PlainAid
set_option linter.unusedVariables false
set_option linter.unusedSimpArgs false
/-- A right term made simple; another one as it is. -/
def Tr.smp (x : Tr) : Tr := if x.rgt = true then x.sim else x
theorem rgt_blt {x : Tr} (h : x.rgt = true) : x.blt = true := by
  unfold Tr.rgt at h
  exact (Bool.and_eq_true_iff.1 h).2
set_option maxRecDepth 100000 in
set_option maxHeartbeats 4000000 in
theorem tsimple_any {S : Nat → Prop} (x : Tr) (eo : Option Addr) (ek : Nat) (tb : Option Addr) (tk : Nat) (w : World) (hS : ∀ b, S b → b < w.heap.size) (hx : TrOk S w x eo ek tb tk) (hf : x.fit) (hn : x.cnt < 1000) :
    Calls Try.prog 9 #[trV x eo ek tb tk] w (SimPost S w x.smp) := by
  have CR : Hid (∀ W, Below w.heap.size w W → Calls Try.prog 16 #[trV x eo ek tb tk] W fun e w' => e = .returned (.bool x.rgt) ∧ Below W.heap.size W w') := Lib.hid fun W hW => right_any x eo ek tb tk W (fun b hb => by have := hS b hb; have := hW.size; omega) (hx.next hS hW) hf hn
  have CS : Hid (x.rgt = true → ∀ W, Below w.heap.size w W → Calls Try.prog 24 #[trV x eo ek tb tk] W (SimPost S W x.sim)) := Lib.hid fun h W hW => simple_any hS x eo ek tb tk W hW.size (rgt_blt h) (hx.next hS hW)
  have HSM : Hid (x.smp = if x.rgt = true then x.sim else x) := Lib.hid rfl
  have HX := Lib.hid hx
  have HS := Lib.hid hS
  obtain ⟨rg, hrg⟩ : ∃ v, v = x.rgt := ⟨_, rfl⟩
  rw [← hrg] at CR CS HSM
  obtain ⟨sm, hsm⟩ : ∃ v, v = x.smp := ⟨_, rfl⟩
  rw [← hsm] at HSM ⊢
  obtain ⟨xo, hxo⟩ : ∃ v, v = x.op := ⟨_, rfl⟩
  obtain ⟨xs, hxs⟩ : ∃ v, v = x.nm := ⟨_, rfl⟩
  obtain ⟨m, hm⟩ : ∃ m, m = x.exprs.length := ⟨_, rfl⟩
  obtain ⟨m2, hm2⟩ : ∃ m, m = x.terms.length := ⟨_, rfl⟩
  have hxe : trV x eo ek tb tk = .agg #[.int .i64 xo, .string xs, .slice eo m ek, .slice tb m2 tk] := by rw [hm, hm2, hxo, hxs]
  have HXE := Lib.hid hxe
  rw [hxe] at CR CS ⊢
  have GA := Lib.hid (box_zero (.int .i64 xo) (.string xs) (.slice eo m ek) (.slice tb m2 tk) w)
  obtain ⟨z, hz⟩ : ∃ z, z = w.heap.size := ⟨_, rfl⟩
  obtain ⟨yy, hy⟩ : ∃ y, y = w.heap.size + 1 := ⟨_, rfl⟩
  clear hx hf hn hrg hsm hxo hxs hm hm2 hxe hS
  go_enter Try.func9, Try.ntmps9
  go_upto_region 1 with fail
  obtain ⟨W, hW⟩ : ∃ X, (w.alloc (.cells #[.int .i64 xo, .string xs, .slice eo m ek, .slice tb m2 tk] 33)).alloc (.cells #[.int .i64 0, .string ⟨#[]⟩, .slice none 0 0, .slice none 0 0] 33) = X := ⟨_, rfl⟩
  obtain ⟨b1, b2, g1⟩ := GA.out W hW
  have HG := Lib.hid g1
  rw [← hz] at b1
  rw [← hy] at b2
  rw [hW, ← hz, show z + 1 = yy from by omega]
  have HB1 := Lib.hid b1
  have HB2 := Lib.hid b2
  have HZY := Lib.hid (show z = w.heap.size ∧ yy = w.heap.size + 1 by omega)
  obtain ⟨c0, c1, c2, c3⟩ := quad b1
  clear hW b1 b2 g1 GA hz hy
  cases rg with
  | false =>
    go_wp2_with (go_at_call 16; (with_reducible refine (CR.out _ HG.out).mono ?_); rintro e w2 ⟨rfl, hb⟩; have HB := Lib.hid hb; have h1 := (hb.block z (lt_of_heap HB1.out)).trans HB1.out; have h2 := (hb.block yy (lt_of_heap HB2.out)).trans HB2.out; clear hb c0 c1 c2 c3; obtain ⟨c0, c1, c2, c3⟩ := quad h1; obtain ⟨d0, d1, d2, d3⟩ := quad h2; have p0 : w2.frozen? ⟨yy, 0, none⟩ = false := free_blk h2 0; have p1 : w2.frozen? ⟨yy, 1, none⟩ = false := free_blk h2 1; have p2 : w2.frozen? ⟨yy, 2, none⟩ = false := free_blk h2 2; have p3 : w2.frozen? ⟨yy, 3, none⟩ = false := free_blk h2 3; have HXL := Lib.hid (lt_of_heap h2); clear h1 h2)
    have HBW := Lib.hid (below_mono HG.out HB.out (Nat.le_refl _))
    refine bodyPost_ret (v := .agg #[.int .i64 xo, .string xs, .slice eo m ek, .slice tb m2 tk]) (by simp [results, Try.results9, go_sem, d0, d1, d2, d3, p0, p1, p2, p3, HXL.out]) rfl ?_
    rw [HSM.out, ← HXE.out]
    exact sim_fin HBW.out (by have := HZY.out; omega) (fun b hb => ⟨by have := HS.out b hb; have := HZY.out; omega, .inl hb⟩) (HX.out.next HS.out HBW.out) _ _ _ _
  | true =>
    have CS2 := Lib.hid (CS.out rfl)
    go_wp2_with (first | (go_at_call 16; (with_reducible refine (CR.out _ HG.out).mono ?_); rintro e w2 ⟨rfl, hb⟩; have HB := Lib.hid hb; have h1 := (hb.block z (lt_of_heap HB1.out)).trans HB1.out; have h2 := (hb.block yy (lt_of_heap HB2.out)).trans HB2.out; have HB22 := Lib.hid h2; clear hb c0 c1 c2 c3; obtain ⟨c0, c1, c2, c3⟩ := quad h1; clear h1 h2) | (go_at_call 24; (with_reducible refine (CS2.out _ (below_mono HG.out HB.out (Nat.le_refl _))).mono ?_); rintro e w3 ⟨⟨eo3, ek3, tb3, tk3, he, hok⟩, hb⟩; obtain ⟨so, hso⟩ : ∃ v, v = x.sim.op := ⟨_, rfl⟩; obtain ⟨ss, hss⟩ : ∃ v, v = x.sim.nm := ⟨_, rfl⟩; obtain ⟨se, hse⟩ : ∃ v, v = x.sim.exprs.length := ⟨_, rfl⟩; obtain ⟨st, hst⟩ : ∃ v, v = x.sim.terms.length := ⟨_, rfl⟩; have HV : Hid (trV x.sim eo3 ek3 tb3 tk3 = .agg #[.int .i64 so, .string ss, .slice eo3 se ek3, .slice tb3 st tk3]) := Lib.hid (by rw [hso, hss, hse, hst]); obtain rfl : e = Ending.returned (.agg #[.int .i64 so, .string ss, .slice eo3 se ek3, .slice tb3 st tk3]) := (by rw [he, HV.out]); have HOK := Lib.hid hok; have HBB := Lib.hid hb; have h2 := (hb.block yy (lt_of_heap HB22.out)).trans HB22.out; obtain ⟨d0, d1, d2, d3⟩ := quad h2; have p0 : w3.frozen? ⟨yy, 0, none⟩ = false := free_blk h2 0; have p1 : w3.frozen? ⟨yy, 1, none⟩ = false := free_blk h2 1; have p2 : w3.frozen? ⟨yy, 2, none⟩ = false := free_blk h2 2; have p3 : w3.frozen? ⟨yy, 3, none⟩ = false := free_blk h2 3; have HXL := Lib.hid (lt_of_heap h2); clear he hok hb h2 hso hss hse hst))
    have HBW := Lib.hid (below_mono HG.out HB.out (Nat.le_refl _))
    refine bodyPost_ret (v := .agg #[.int .i64 so, .string ss, .slice eo3 se ek3, .slice tb3 st tk3]) (by simp [results, Try.results9, go_sem, d0, d1, d2, d3, p0, p1, p2, p3, HXL.out]) rfl ?_
    rw [HSM.out, if_pos trivial, ← HV.out]
    have h2s := lt_of_heap HB22.out
    exact sim_fin (below_mono HBW.out HBB.out (Nat.le_refl _)) (by have := HZY.out; omega) (fun b hb => by
      have := HZY.out
      rcases hb with h | ⟨h, h'⟩
      · exact ⟨by have := HS.out b h; omega, .inl h⟩
      · exact ⟨by omega, .inr ⟨by have := HBW.out.size; omega, h'⟩⟩) HOK.out _ _ _ _
/-- A node ahead of a place. -/
def earl (k : Int) (n : Nat) : Nat := n - 1 - (IntKind.u64.wrap k).toNat % n
theorem earl_lt {k : Int} {n : Nat} (h : 0 < n) : earl k n < n := by unfold earl; omega
set_option maxRecDepth 100000 in
set_option maxHeartbeats 4000000 in
theorem earlier_any (k : Int) (n : Nat) (hn : n ≤ 1000) (w : World) : Calls Try.prog 22 #[.int .i64 k, .int .i64 n] w fun e w' => e = .returned (.int .i64 (if n = 0 then -1 else (earl k n : Int))) ∧ w' = w := by
  rcases Nat.eq_zero_or_pos n with rfl | hp
  · go_enter Try.func22, Try.ntmps22
    go_wp2_with fail
    go_ret
    exact ⟨rfl, rfl⟩
  · obtain ⟨N, hN⟩ : ∃ v : Int, v = (n : Int) := ⟨_, rfl⟩
    have hlt := earl_lt (k := k) hp
    have hu := IntKind.wrap_u64 k
    obtain ⟨U, hU⟩ : ∃ v : Int, v = IntKind.u64.wrap k := ⟨_, rfl⟩
    have hU0 : 0 ≤ U ∧ U < 18446744073709551616 := by rw [hU, hu]; omega
    obtain ⟨R, hR⟩ : ∃ v : Int, v = U % N := ⟨_, rfl⟩
    have hR0 : 0 ≤ R ∧ R < N := by rw [hR]; exact ⟨Int.emod_nonneg _ (by omega), Int.emod_lt_of_pos _ (by omega)⟩
    have hE : (earl k n : Int) = N - 1 - R := by
      unfold earl
      rw [← hU]
      have : ((U.toNat % n : Nat) : Int) = R := by rw [hR, hN, Int.natCast_emod, Int.toNat_of_nonneg hU0.1]
      omega
    have w1 : IntKind.i64.wrap (N - 1) = N - 1 := IntWalk.i64_in _ (by omega)
    have w2 : IntKind.u64.wrap N = N := by rw [IntKind.wrap_u64]; omega
    have w3 : IntKind.u64.wrap R = R := by rw [IntKind.wrap_u64]; omega
    have w4 : IntKind.i64.wrap R = R := IntWalk.i64_in _ (by omega)
    have w5 : IntKind.i64.wrap (N - 1 - R) = N - 1 - R := IntWalk.i64_in _ (by omega)
    have wU : IntKind.u64.wrap k = U := hU.symm
    have rT : Int.tmod U N = R := by rw [hR]; exact Int.tmod_eq_emod_of_nonneg hU0.1
    have n0 : (N == 0) = false := by simp; omega
    have n1 : ¬ N = 0 := by omega
    have HR : Hid ((if n = 0 then (-1 : Int) else (earl k n : Int)) = N - 1 - R) := Lib.hid (by rw [if_neg (by omega), hE])
    rw [← hN, HR.out]
    clear hU hR hN hE hu hlt hp
    go_enter Try.func22, Try.ntmps22
    go_wp2_with fail
    go_ret
    exact ⟨rfl, rfl⟩
set_option maxRecDepth 100000 in
set_option maxHeartbeats 4000000 in
theorem rtold_any (n d : Nat) (w : World) : Calls Try.prog 23 #[.int .i64 n, .int .i64 d] w fun e w' => e = .returned (.tuple #[.int .i64 (if 1000 ≤ n ∨ 1000 ≤ d then 1000 else n : Nat), .int .i64 (if 1000 ≤ n ∨ 1000 ≤ d then 1000 else d : Nat)]) ∧ w' = w := by
  by_cases h1 : 1000 ≤ n
  · have e1 : (1000 : Int) ≤ (n : Int) := by omega
    go_enter Try.func23, Try.ntmps23
    go_wp2_with fail
    go_ret2
    exact ⟨by simp [h1], rfl⟩
  · have e1 : ((1000 : Int) ≤ (n : Int)) = False := by simp; omega
    have e1b : decide ((1000 : Int) ≤ (n : Int)) = false := by simp; omega
    have e1c : (1000 ≤ n) = False := by simp; omega
    by_cases h2 : 1000 ≤ d
    · have e2 : (1000 : Int) ≤ (d : Int) := by omega
      go_enter Try.func23, Try.ntmps23
      go_wp2_with fail
      go_ret2
      exact ⟨by simp [h2], rfl⟩
    · have e2 : ((1000 : Int) ≤ (d : Int)) = False := by simp; omega
      have e2c : (1000 ≤ d) = False := by simp; omega
      go_enter Try.func23, Try.ntmps23
      go_wp2_with fail
      go_ret2
      exact ⟨by simp [h1, h2], rfl⟩
end Go.Proofs.Ytepoihokbcoidaa
