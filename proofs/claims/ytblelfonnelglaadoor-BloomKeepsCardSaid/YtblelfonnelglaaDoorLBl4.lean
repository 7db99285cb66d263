/- The law BloomKeeps walked: what was put in is there, whatever stands beside it; the order counts for nothing. No conditions but that the table stands there. -/
import Derived.Test.YtblelfonnelglaaDoorLBl3
import Derived.Deep.RegionLaw
namespace Go.Proofs.YtblelfonnelglaaDoor
open Go.RowKit
set_option linter.unusedSimpArgs false
set_option linter.unusedVariables false

theorem mk_turned (a b : List (List UInt8)) : mk (b ++ a) = mk (a ++ b) := by
  have hl : (b ++ a).length = (a ++ b).length := by rw [List.length_append, List.length_append]; omega
  have hb := bN_pos ((a ++ b).length : Int)
  apply eq_of_bits
  · rw [mk_len, mk_len, hl]
  · intro q hq
    unfold mk
    rw [hl, mkF_bit _ _ (by omega) _ (by rw [List.length_replicate]; omega), mkF_bit _ _ (by omega) _ (by rw [List.length_replicate]; omega), List.any_append, List.any_append]
    rw [Bool.or_comm (b.any _)]
theorem umod8 (a : Int) (n : Nat) (h : 1 ≤ n) : ∃ k : Nat, (IntKind.u64.wrap a).tmod (n : Int) = (k : Int) ∧ k < n := by
  have hp : 0 ≤ IntKind.u64.wrap a := by rw [IntKind.wrap_u64]; omega
  obtain ⟨A, hA⟩ := Int.eq_ofNat_of_zero_le hp
  rw [hA]
  exact ⟨A % n, by rw [Int.tmod_eq_emod_of_nonneg (by omega)]; rfl, Nat.mod_lt _ (by omega)⟩
/-- An append of what lies at an address to a row of the call's own, as one step of a region that draws its order. -/
theorem step_app {ops : Array Oper} {o : Oper} {a : Act} {K : Act → World → Prop} {Q : Exit → Act → World → Prop} {E : Prop} {B n m c : Nat} {v : Value} {vs news : List Value} {w : World} {ad : Addr}
    (hg : o.guard = none) (s x : Operand) (hop : o.op = Op.call { callee := Callee.builtin Builtin.append, args := #[s, x], argTypes := #[33, 33] })
    (hs : a.eval s = v) (hx : a.eval x = .slice (some ad) m c) (hown : w.ownsRow B 9 1 v n vs) (hnews : ∀ j u, news[j]? = some u → w.cell? (ad.add j) = some u) (h1 : ∀ u ∈ news, u.oneCell' = true) (hl : news.length = m)
    (hnm : n + m ≤ 1000000) (hB : B ≤ w.heap.size)
    (hK : ∀ v' w2, Hid (w2.ownsRow B 9 1 v' (n + m) (vs ++ news)) → Hid (w.grownBy w2 v.ownBlock) → K (a.put o.dst v') w2) :
    if Region.wanted o (yielded ops a.tmps) = true then Oper.wp Tryd.prog o a w K Q else E := by
  obtain ⟨i0, hi, hz0, hz1, hz2⟩ := info_parts strInfo
  have hw : Region.wanted o (yielded ops a.tmps) = true := by simp [Region.wanted, hg]
  rw [if_pos hw]
  obtain ⟨v', w2, hr, hown', hgrow, _⟩ := run_append_own (P := Tryd.prog) w B 33 o.type 9 i0 (.string ⟨#[]⟩) 1 16 Tryd.underlying33 hi hz0 hz1 hz2 rfl (by decide) v n vs hown ad m c news (by omega) hnews h1 (by unfold maxLen; omega) (by omega) hB
  unfold Oper.wp execOp
  simp only [hop, resolve, invoke, builtin, Sem.run_bind, Sem.run_pure, Result.andThen_ok, List.map_toArray, List.map_cons, List.map_nil, hs, hx, hr]
  exact hK v' w2 (Lib.hid hown') (Lib.hid hgrow)
set_option maxRecDepth 100000 in
set_option maxHeartbeats 4000000 in
theorem bloomKeeps_walk (ao : Option Addr) (cap : Nat) (xs : List ByteArray) (by_ : Int) (hcap : xs.length ≤ cap) (hcm : cap ≤ maxLen) (hx : ∀ x ∈ xs, x.size ≤ maxLen) (_wb : (Lit.int .i64 by_).wf = true) (w : World) (hT : TabAt w) (hS : SAt w.heap.size ao (strs xs) w) :
    Calls Tryd.prog 13 #[.slice ao xs.length cap, .int .i64 by_] w fun e w' => e = .returned (.bool true) ∧ Below w.heap.size w w' := by
  have T0 := Lib.hid hT
  have K0 := Lib.hid (Below.refl w.heap.size w)
  have HS := Lib.hid hS
  obtain ⟨n, hn⟩ : ∃ n, n = xs.length := ⟨_, rfl⟩
  have GG : Hid (Calls Tryd.prog 33 #[.slice ao n cap] w fun e w' => GreatPost8 n xs e ∧ w = w') := Lib.hid (by
    rw [hn]; exact great8_any ao cap xs hx (by omega) w.heap.size w hS)
  have HX := Lib.hid hx
  have HN := Lib.hid hn
  rw [← hn] at hcap ⊢
  unfold maxLen at hcm
  clear hT hS hn hx
  go_enter Tryd.func13, Tryd.ntmps13
  go_wp2_with fail
  refine (GG.out).mono ?_
  rintro e w1 ⟨⟨g, rfl, hg⟩, rfl⟩
  cases g with
  | true =>
    clear hg
    go_wp2_with fail
    refine (awake8_any _ T0.out).mono ?_
    rintro e w1 ⟨rfl, k1⟩
    have K1 := Lib.hid (below_mono K0.out k1 (Nat.le_refl _))
    have T1 := Lib.hid (T0.out.next K1.out)
    clear k1
    go_wp2_with fail
    go_ret
    exact ⟨rfl, K1.out⟩
  | false =>
    obtain ⟨hn300, hx300⟩ := hg rfl
    have HX3 := Lib.hid hx300
    clear hg hx300
    by_cases hz : n = 0
    · have e0 : ((n : Int) == 0) = true := by rw [beq_iff_eq]; omega
      clear hz
      go_wp2_with fail
      refine (awake8_any _ T0.out).mono ?_
      rintro e w1 ⟨rfl, k1⟩
      have K1 := Lib.hid (below_mono K0.out k1 (Nat.le_refl _))
      have T1 := Lib.hid (T0.out.next K1.out)
      clear k1
      go_wp2_with fail
      go_ret
      exact ⟨rfl, K1.out⟩
    · have e0 : ((n : Int) == 0) = false := by rw [beq_eq_false_iff_ne]; omega
      have hn1 : 1 ≤ n := by omega
      obtain ⟨a, rfl⟩ := HS.out.1 (by simp [strs]; have := HN.out; omega)
      obtain ⟨f, hf⟩ : ∃ f, f = bstr (mk (lsts xs)) := ⟨_, rfl⟩
      have fz : 1 ≤ f.size ∧ f.size ≤ 1310720 := by
        rw [hf, bstr_size, mk_len]
        have := bN_pos ((lsts xs).length : Int); omega
      have GM : Hid (Calls Tryd.prog 34 #[.slice (some a) n cap] w fun e w' => e = .returned (.string f) ∧ Below w.heap.size w w') := Lib.hid (by
        rw [HN.out, hf]; exact make_any (some a) cap xs (by have := HN.out; omega) HX.out w T0.out HS.out)
      have GH : Hid (∀ x ∈ xs, ∀ w, TabAt w → Calls Tryd.prog 36 #[.string f, .string x] w fun e w' => e = .returned (.bool true) ∧ Below w.heap.size w w') := Lib.hid (fun x hx w hT => by
        have := has_any f x fz.1 (by omega) (HX.out x hx) w hT
        rw [hf, bstr_list, mk_has (lsts xs) _ (List.mem_map.2 ⟨x, hx, rfl⟩)] at this
        rw [hf]; exact this)
      have HF := Lib.hid hf
      obtain ⟨fz1, fz2⟩ := fz
      clear hz hf
      go_wp2_with fail
      refine (GM.out).mono ?_
      rintro e w1 ⟨rfl, k1⟩
      have K1 := Lib.hid k1
      clear k1
      go_wp2_with fail
      go_loopw [6] (fun i wr => ∃ j : Nat, j ≤ n ∧ i = .int .i64 j ∧ Below w.heap.size w wr) (fun i _ => n - (intOf i).toNat)
      case atStart => exact ⟨0, by omega, rfl, K1.out⟩
      case round =>
        obtain ⟨j, hj, rfl, hbe⟩ := hrel
        by_cases hlt : j < n
        · have hjx : j < xs.length := by rw [← HN.out]; exact hlt
          obtain ⟨x, hxx⟩ : ∃ x, x = xs[j] := ⟨_, rfl⟩
          have c0 : wr.cell? (a.add j) = some (.string x) := by
            rw [hxx]
            exact ((HS.out.under hbe).2 a rfl (by simp [strs]; omega)).2 j _ (by simp [strs, hjx])
          have hji : (j : Int) < (n : Int) := by omega
          have T1 := Lib.hid (T0.out.next hbe)
          have K2 := Lib.hid hbe
          have G := Lib.hid (GH.out x (by rw [hxx]; exact List.getElem_mem _) wr T1.out)
          clear hbe hxx
          go_wp2_with fail
          refine (G.out).mono ?_
          rintro e w3 ⟨rfl, k3⟩
          have K3 := Lib.hid (below_mono K2.out k3 (Nat.le_refl _))
          clear k3
          go_wp2_with fail
          go_roundw
          case rel => exact ⟨j + 1, by omega, by go_num, K3.out⟩
          case measure => simp [intOf]; omega
        · obtain rfl : j = n := by omega
          obtain ⟨k, hk, hk1⟩ := umod8 by_ j hn1
          have hki : (k : Int) ≤ (cap : Int) := by omega
          have hki2 : (k : Int) ≤ (j : Int) := by omega
          have hki3 : (0 : Int) ≤ (k : Int) := by omega
          have hcapi : (j : Int) ≤ (cap : Int) := by omega
          have hkc : ¬ k = cap := by omega
          have K2 := Lib.hid hbe
          clear hbe
          go_wp2_with fail
          have HCS : Hid (∀ i u, (strs xs)[i]? = some u → ∀ W, Below w.heap.size w W → W.cell? (a.add i) = some u) := Lib.hid (fun i u hu W hW => ((HS.out.under hW).2 a rfl (by have := (List.getElem?_eq_some_iff.1 hu).1; omega)).2 i u hu)
          have R0 : Hid (((wr.alloc (Obj.cells #[] 9)).drew).ownsRow wr.heap.size 9 1 (.slice (some ⟨wr.heap.size, 0, none⟩) 0 0) 0 []) := Lib.hid (World.ownsRow_made (base := wr.heap.size) (e := 9) (size := 1) wr #[] 0 (Nat.le_refl _) (by decide) rfl)
          have KA : Hid (Below w.heap.size w (wr.alloc (Obj.cells #[] 9)).drew) := Lib.hid (K2.out.alloc K2.out.size (Obj.cells #[] 9)).drew
          have E1 : Value.slice (if cap = k then some a else some (a.add k)) (j - k) (cap - k) = .slice (some (a.add k)) (j - k) (cap - k) := by rw [if_neg (fun h => hkc h.symm)]
          have D1 : strs (xs.drop k) = (strs xs).drop k := List.map_drop
          have D2 : strs (xs.take k) = (strs xs).take k := List.map_take
          have N1 : Hid (∀ i u, (strs (xs.drop k))[i]? = some u → ((wr.alloc (Obj.cells #[] 9)).drew).cell? ((a.add k).add i) = some u) := Lib.hid (fun i u hu => by
            rw [Addr.add_add]
            exact HCS.out (k + i) u (by rw [D1, List.getElem?_drop] at hu; exact hu) _ KA.out)
          have N2 : Hid (∀ W, Below w.heap.size w W → ∀ i u, (strs (xs.take k))[i]? = some u → W.cell? (a.add i) = some u) := Lib.hid (fun W hW i u hu => HCS.out i u (by
            rw [D2, List.getElem?_take] at hu
            split at hu
            · exact hu
            · cases hu) W hW)
          have O1 : Hid (∀ ys : List ByteArray, ∀ u ∈ strs ys, u.oneCell' = true) := Lib.hid (fun ys u hu => by
            obtain ⟨x, _, rfl⟩ := List.mem_map.1 hu
            rfl)
          have L1 : (strs (xs.drop k)).length = j - k := by rw [D1, List.length_drop, strs, List.length_map, ← HN.out]
          have L2 : (strs (xs.take k)).length = k := by rw [D2, List.length_take, strs, List.length_map, ← HN.out]; omega
          have B1 : wr.heap.size ≤ ((wr.alloc (Obj.cells #[] 9)).drew).heap.size := by
            show _ ≤ (wr.heap.push _).size
            simp
          have B0 : Hid (w.heap.size ≤ wr.heap.size) := Lib.hid K2.out.size
          have M1 : 0 + (j - k) ≤ 1000000 := by omega
          have M2 : 0 + (j - k) + k ≤ 1000000 := by omega
          clear D1 D2 HCS
          go_region_law (first
            | (refine step_app (B := wr.heap.size) (n := 0) (m := j - k) (c := cap - k) (vs := []) (news := strs (xs.drop k)) rfl _ _ rfl rfl rfl R0.out N1.out (O1.out _) L1 M1 B1 ?_
               intro v1 w2 R1 G1
               have K3 := Lib.hid (KA.out.grown G1.out (Nat.le_trans B0.out B1) (fun q e => by cases e; exact B0.out))
               have B2 := Nat.le_trans B1 G1.out.size)
            | (refine step_app (B := wr.heap.size) (n := 0 + (j - k)) (m := k) (c := cap) (vs := [] ++ strs (xs.drop k)) (news := strs (xs.take k)) rfl _ _ rfl rfl rfl R1.out (N2.out _ K3.out) (O1.out _) L2 M2 B2 ?_
               intro v2 w3 R2 G2
               have K4 := Lib.hid (K3.out.grown G2.out K3.out.size (fun q e => Nat.le_trans B0.out (R1.out.lt q e).1)))
            | (refine step_app (B := wr.heap.size) (n := 0 + (j - k)) (m := k) (c := cap) (vs := [] ++ strs (xs.drop k)) (news := strs (xs.take k)) rfl _ _ rfl rfl rfl R1.out.drew (N2.out _ K3.out.drew) (O1.out _) L2 M2 B2 ?_
               intro v2 w3 R2 G2
               have K4 := Lib.hid (K3.out.drew.grown G2.out K3.out.size (fun q e => Nat.le_trans B0.out (R1.out.lt q e).1))))
          have R3 : w3.ownsRow wr.heap.size 9 1 v2 j (strs (xs.drop k ++ xs.take k)) := by
            have h := R2.out
            rw [List.nil_append, show 0 + (j - k) + k = j by omega] at h
            rw [strs, List.map_append]
            exact h
          obtain ⟨ta, tc, rfl, hta⟩ := own_sat R3
          have T4 := Lib.hid (T0.out.next K4.out)
          have hl4 : (xs.drop k ++ xs.take k).length = j := by rw [List.length_append, List.length_drop, List.length_take, ← HN.out]; omega
          have GT : Hid (Calls Tryd.prog 34 #[.slice ta j tc] w3 fun e w' => e = .returned (.string f) ∧ Below w3.heap.size w3 w') := Lib.hid (by
            have h := make_any ta tc (xs.drop k ++ xs.take k) (by omega) (fun x hx => HX.out x (by
              rcases List.mem_append.1 hx with h | h
              · exact List.mem_of_mem_drop h
              · exact List.mem_of_mem_take h)) w3 T4.out hta
            rw [hl4] at h
            have e1 : lsts (xs.drop k ++ xs.take k) = (lsts xs).drop k ++ (lsts xs).take k := by
              rw [lsts, List.map_append, List.map_drop, List.map_take]
              rfl
            rw [e1, mk_turned, List.take_append_drop, ← HF.out] at h
            exact h)
          clear R3 hta R2 R1 G1 G2 R0 KA N1 N2 L1 L2 hl4 K3
          go_wp2_with fail
          refine (GT.out).mono ?_
          rintro e w4 ⟨rfl, k4⟩
          have K5 := Lib.hid (below_mono K4.out k4 (Nat.le_refl _))
          have T5 := Lib.hid (T0.out.next K5.out)
          clear k4
          go_wp2_with fail
          refine (awake8_any _ T5.out).mono ?_
          rintro e w5 ⟨rfl, k5⟩
          have K6 := Lib.hid (below_mono K5.out k5 (Nat.le_refl _))
          clear k5
          go_wp2_with fail
          go_ret
          exact ⟨rfl, K6.out⟩
end Go.Proofs.YtblelfonnelglaaDoor
