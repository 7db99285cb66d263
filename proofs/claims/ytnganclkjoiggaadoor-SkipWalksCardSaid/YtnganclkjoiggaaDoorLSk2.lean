/- The law SkipWalks walked: for every texts the call returns true. Condition: the library's table of trailing zeros stands in memory. -/
import Derived.Test.YtnganclkjoiggaaDoorSkNs
namespace Go.Proofs.YtnganclkjoiggaaDoor
open Go.RowKit Go.Maps Go.WideShapes
set_option linter.unusedVariables false
set_option linter.unusedSimpArgs false
namespace sk
set_option maxRecDepth 100000 in
set_option maxHeartbeats 16000000 in
theorem skipWalks_walk (ao : Option Addr) (cap : Nat) (xs : List ByteArray) (wc : xs.length ≤ cap) (wm : cap ≤ maxLen) (wx : ∀ x ∈ xs, x.size ≤ maxLen) (w : World) (hT : TzAt w) (hs : VAt w.heap.size ao (xs.map Value.string) w) :
    Calls Tryd.prog 6 #[.slice ao xs.length cap] w fun e w' => e = .returned (.bool true) ∧ Below w.heap.size w w' := by
  obtain ⟨n, hn⟩ : ∃ n, n = xs.length := ⟨_, rfl⟩
  rw [← hn]
  have HN := Lib.hid hn
  have CA := Lib.hid (awake_any w hT)
  have hm : n ≤ maxLen := by omega
  unfold maxLen at hm
  have HT : Hid (∀ W, Below w.heap.size w W → TzAt W) := Lib.hid fun W hb => hT.next hb
  have HG : Hid (0 < w.heap.size) := Lib.hid hT.pos
  have HS : Hid (∀ W, Below w.heap.size w W → VAt w.heap.size ao (xs.map Value.string) W) := Lib.hid fun W hb => hs.under hb
  clear hT hs wc wm wx hn
  by_cases h150 : n ≤ 150
  · have h1 : ¬ (150 : Int) < (n : Int) := by omega
    go_enter Tryd.func6, Tryd.ntmps6
    go_upto_region 3 with (go_at_call 8; (with_reducible refine CA.out.mono ?_); rintro e w1 ⟨rfl, hb1⟩; have HB1 := Lib.hid hb1; clear hb1)
    have CN := Lib.hid (new_any w1)
    go_wp2_with (go_at_call 9; (with_reducible refine CN.out.mono ?_); rintro e w2 ⟨H, rfl, hs2, hb2⟩; have S2 := Lib.hid hs2; have HB2 := Lib.hid (below_mono HB1.out hb2 (Nat.le_refl _)); clear hs2 hb2)
    obtain ⟨B, hB⟩ : ∃ B, B = w1.heap.size := ⟨_, rfl⟩
    rw [← hB] at S2 ⊢
    have HBB : Hid (w.heap.size ≤ B) := Lib.hid (by rw [hB]; exact HB1.out.size)
    clear hB CN
    obtain ⟨m, hm2⟩ : ∃ m, m = B + 2 := ⟨_, rfl⟩
    rw [← hm2] at S2 ⊢
    clear hm2
    go_loopw [4] (fun i wr => ∃ (j : Nat) (ns : List Nd) (mx : Int), j ≤ n ∧ i = .int .i64 j ∧ Hid (SkAt B m H mx ns wr) ∧ Hid (ns.length ≤ j) ∧ Hid (Below w.heap.size w wr)) (fun i _ => n - (intOf i).toNat)
    case atStart => exact ⟨0, [], 1, by omega, rfl, S2, Lib.hid (by simp), HB2⟩
    case round =>
      obtain ⟨j, ns, mx, hj, rfl, HSk, HL, HB⟩ := hrel
      clear S2 HB2 HB1
      have hj0 : (0 : Int) ≤ (j : Int) := by omega
      by_cases hlt : j < n
      · have hji : (j : Int) < (n : Int) := by omega
        obtain ⟨a, rfl⟩ := (HS.out wr HB.out).there (by simp; rw [← HN.out]; omega)
        obtain ⟨x, hx⟩ : ∃ x, xs[j]? = some x := ⟨xs[j]'(by rw [← HN.out]; exact hlt), List.getElem?_eq_getElem _⟩
        have hc := ((HS.out wr HB.out).cells a rfl (by simp; rw [← HN.out]; omega)).2 j (.string x) (by simp [hx])
        have CP := Lib.hid (put_any HSk.out x (j : Int) (HT.out wr HB.out) (Nat.lt_of_lt_of_le HG.out HBB.out) HSk.out.base (by have := HL.out; omega))
        clear hx
        go_wp2_with fail
        refine CP.out.mono ?_
        rintro e w3 ⟨ns', mx', va, vb, rfl, hp, hs3, ho3, _⟩
        have HB3 := Lib.hid (HSk.out.lift ho3 HBB.out HB.out.size HB.out)
        have HL3 : Hid (ns'.length ≤ j + 1) := Lib.hid (by have := hp.len; have := HL.out; omega)
        have HS3 := Lib.hid hs3
        clear hp hs3 ho3 CP
        go_wp2_with fail
        go_roundw
        case rel => exact ⟨j + 1, ns', mx', by omega, by go_num, HS3, HL3, HB3⟩
        case measure => simp [intOf]; omega
      · obtain rfl : j = n := by omega
        have CF := Lib.hid (first_any HSk.out)
        obtain ⟨kk, y, b, hf, ht⟩ := tell_ex ns.head?
        rw [hf] at CF
        have HTL := Lib.hid ht
        clear hf ht
        go_wp2_with (go_at_call 25; (with_reducible refine CF.out.mono ?_); rintro e w3 ⟨rfl, hb3⟩; have HSk3 := Lib.hid (HSk.out.under hb3); have HB3 := Lib.hid (below_mono HB.out hb3 (Nat.le_refl _)); clear hb3)
        clear CF HSk HB hlt
        have L0 := Lib.hid (World.ownsRow_nil w3 w3.heap.size 9 1)
        obtain ⟨b2, hb2⟩ : ∃ b, b = w3.heap.size := ⟨_, rfl⟩
        rw [← hb2] at L0
        have HB2z : Hid (b2 ≤ w3.heap.size ∧ w.heap.size ≤ b2) := Lib.hid ⟨by omega, by rw [hb2]; exact HB3.out.size⟩
        clear hb2
        have hlen : ns.length ≤ j := HL.out
        go_loopw [5, 7, 9] (fun u k ok wr => ∃ (A T : List Nd) (c : Nat) (kk : ByteArray) (b : Bool), Hid (ns = A ++ T) ∧ Hid (c = A.length) ∧ k = .string kk ∧ ok = .bool b ∧ Hid ((T.head? = none ∧ b = false) ∨ ∃ E, T.head? = some E ∧ kk = E.k ∧ b = true) ∧ Hid (wr.ownsRow b2 9 1 u c (A.map kv)) ∧ Hid (SkAt B m H mx ns wr) ∧ Hid (b2 ≤ wr.heap.size) ∧ Hid (Below w.heap.size w wr)) (fun u _ _ _ => 200 - slen u)
        case atStart => exact ⟨[], ns, 0, kk, b, Lib.hid rfl, Lib.hid rfl, rfl, rfl, HTL, L0, HSk3, Lib.hid HB2z.out.1, HB3⟩
        case round =>
          clear HTL L0 HSk3
          obtain ⟨A, T, c, kk, b, HA, HC, rfl, rfl, HE, HR, HSk, HZ, HB⟩ := hrel
          obtain ⟨va, vc, hv⟩ := row_form HR.out
          subst hv
          have hcn : c ≤ j := by have h1 := HC.out; have h2 := congrArg List.length HA.out; simp at h2; omega
          have hcn2 : (c : Int) ≤ (j : Int) := by omega
          cases T with
          | cons E T =>
            have hk : kk = E.k ∧ b = true := by
              rcases HE.out with ⟨h, _⟩ | ⟨E2, h, h2, h3⟩
              · cases h
              · injection h with h; subst h; exact ⟨h2, h3⟩
            obtain ⟨hk, rfl⟩ := hk
            have HK := Lib.hid hk
            have CB : Hid (∀ W, SkAt B m H mx ns W → Calls Tryd.prog 26 #[.pointer (some ⟨m, 0, none⟩), .string kk] W fun e w' => e = .returned (tellV T.head?) ∧ Below W.heap.size W w') := Lib.hid fun W hW => by
              rw [hk]
              have so := hW.so
              rw [HA.out] at hW so
              exact behind_any (As := A ++ [E]) (Bs := T) (by simpa using hW) E.k (cut_behind so)
            obtain ⟨k2, y2, b2', hf2, ht2⟩ := tell_ex T.head?
            rw [hf2] at CB
            have HE2 := Lib.hid ht2
            have hnew : (wr.alloc (.cells #[.string kk] 9)).heap[wr.heap.size]? = some (.cells #[.string kk] 9 (0, 0)) := heap_alloc_new wr _
            have PN : Hid ((wr.alloc (.cells #[.string kk] 9)).cell? ⟨wr.heap.size, 0, none⟩ = some (.string kk)) := Lib.hid (cell_blk hnew 0)
            have RA := Lib.hid (HR.out.alloc (.cells #[.string kk] 9))
            have SA := Lib.hid (HSk.out.under ((Below.refl _ _).alloc (Nat.le_refl _) (.cells #[.string kk] 9)))
            have BA := Lib.hid (HB.out.alloc HB.out.size (.cells #[.string kk] 9))
            have hb2a : b2 ≤ (wr.alloc (.cells #[.string kk] 9)).heap.size := by
              have := HZ.out; simp; omega
            have HB2A := Lib.hid hb2a
            have hn5 : c ≤ 1000000 := by omega
            clear hnew hk hf2 ht2 hb2a
            go_wp2_with (first | (at_builtin; refine wpList_appK rfl _ _ rfl b2 c _ _ (.string kk) rfl rfl RA.out wr.heap.size rfl PN.out hn5 HB2A.out ?_; intro v2 w9 hrow hgr; have hB9 := Lib.hid (BA.out.grown hgr (by simp; have := HB.out.size; omega) (fun g hg => Nat.le_trans HB2z.out.2 (RA.out.lt g hg).1)); have hS9 := Lib.hid (SA.out.grown RA.out kinds3 hgr); have CB9 := Lib.hid (CB.out w9 hS9.out); have hR9 := Lib.hid hrow; have hZ9 := Lib.hid hgr.size; obtain ⟨va2, vc2, hv2⟩ := row_form hrow; subst hv2; clear hrow hgr) | (go_at_call 26; (with_reducible refine CB9.out.mono ?_); rintro e w10 ⟨rfl, hb10⟩; have hS10 := Lib.hid (hS9.out.under hb10); have hB10 := Lib.hid (below_mono hB9.out hb10 (Nat.le_refl _)); have hR10 := Lib.hid (row_stay hR9.out fun g hg => hb10.block g (hR9.out.lt g hg).2); have hZ10 := Lib.hid (Nat.le_trans HB2A.out (Nat.le_trans hZ9.out hb10.size)); clear hb10))
            go_roundw
            case rel => exact ⟨A ++ [E], T, c + 1, k2, b2', Lib.hid (by rw [HA.out]; simp), Lib.hid (by rw [HC.out]; simp), rfl, rfl, HE2, Lib.hid (by rw [List.map_append, List.map_cons, List.map_nil, kv, ← HK.out]; exact hR10.out), hS10, hZ10, hB10⟩
            case measure => simp [slen]; omega
          | nil =>
            have hb : b = false := by
              rcases HE.out with ⟨_, h⟩ | ⟨E2, h, _, _⟩
              · exact h
              · cases h
            subst hb
            have hA : A = ns := by have := HA.out; simpa using this.symm
            subst hA
            clear HE HA HN
            have CLa := Lib.hid (last_of HSk.out)
            obtain ⟨kk3, y3, b3', hf3, ht3⟩ := tell_ex A.getLast?
            rw [hf3] at CLa
            have HTL := Lib.hid ht3
            clear hf3 ht3
            go_wp2_with (go_at_call 27; (with_reducible refine CLa.out.mono ?_); rintro e w4 ⟨rfl, hb4⟩; have HSk4 := Lib.hid (HSk.out.under hb4); have HB4 := Lib.hid (below_mono HB.out hb4 (Nat.le_refl _)); have HU4 := Lib.hid (row_stay HR.out fun g hg => hb4.block g (HR.out.lt g hg).2); clear hb4)
            clear CLa HSk HB HR HB3 HZ HC
            have L0 := Lib.hid (World.ownsRow_nil w4 w4.heap.size 9 1)
            obtain ⟨b3, hb3⟩ : ∃ b, b = w4.heap.size := ⟨_, rfl⟩
            rw [← hb3] at L0
            have HB3z : Hid (b3 ≤ w4.heap.size ∧ w.heap.size ≤ b3) := Lib.hid ⟨by omega, by rw [hb3]; exact HB4.out.size⟩
            have HUB : Hid (∀ g, (Value.slice va c vc).ownBlock = some g → g < b3) := Lib.hid fun g hg => by rw [hb3]; exact (HU4.out.lt g hg).2
            clear hb3
            go_loopw [6, 10, 12] (fun u k ok wr => ∃ (P T : List Nd) (d : Nat) (kk : ByteArray) (b : Bool), Hid (A = P ++ T) ∧ Hid (d = T.length) ∧ k = .string kk ∧ ok = .bool b ∧ Hid ((P.getLast? = none ∧ b = false) ∨ ∃ E, P.getLast? = some E ∧ kk = E.k ∧ b = true) ∧ Hid (wr.ownsRow b3 9 1 u d (T.reverse.map kv)) ∧ Hid (wr.ownsRow b2 9 1 (.slice va c vc) c (A.map kv)) ∧ Hid (SkAt B m H mx A wr) ∧ Hid (b3 ≤ wr.heap.size) ∧ Hid (Below w.heap.size w wr)) (fun u _ _ _ => 200 - slen u)
            case atStart => exact ⟨A, [], 0, kk3, b3', Lib.hid (by simp), Lib.hid rfl, rfl, rfl, HTL, L0, HU4, HSk4, Lib.hid HB3z.out.1, HB4⟩
            case round =>
              clear HTL L0 HSk4 HU4
              obtain ⟨P, T, d, kk, b, HA, HC, rfl, rfl, HE, HR, HU, HSk, HZ, HB⟩ := hrel
              obtain ⟨da, dc, hv⟩ := row_form HR.out
              subst hv
              have hcn : d ≤ j := by have h1 := HC.out; have h2 := congrArg List.length HA.out; simp at h2; omega
              have hcn2 : (d : Int) ≤ (j : Int) := by omega
              rcases List.eq_nil_or_concat P with rfl | ⟨P, E, rfl⟩
              · have hb : b = false := by
                  rcases HE.out with ⟨_, h⟩ | ⟨E2, h, _, _⟩
                  · exact h
                  · cases h
                subst hb
                have hA : T = A := by have := HA.out; simpa using this.symm
                subst hA
                have hcd : c = d := by have h1 := HU.out.1; have h2 := HC.out; simp at h1; omega
                subst hcd
                clear HE HA HUB
                have CK := Lib.hid (keys_any HSk.out (by omega))
                rw [← HC.out] at CK
                go_upto_region 19 with (first | (go_at_call 17; (with_reducible refine CK.out.mono ?_); rintro e w5 ⟨ka, kc, rfl, hk5, hb5⟩; have HK5 := Lib.hid hk5; have HU5 := Lib.hid (row_stay HU.out fun g hg => hb5.block g (HU.out.lt g hg).2); have HR5 := Lib.hid (row_stay HR.out fun g hg => hb5.block g (HR.out.lt g hg).2); have HB5 := Lib.hid (below_mono HB.out hb5 (Nat.le_refl _)); have CS := Lib.hid (same_any HU5.out hk5 (by omega) HC.out); clear hk5 hb5) | (go_at_call 24; (with_reducible refine CS.out.mono ?_); rintro e w6 ⟨rfl, hb6⟩; have HU6 := Lib.hid (row_stay HU5.out fun g hg => hb6.block g (HU5.out.lt g hg).2); have HR6 := Lib.hid (row_stay HR5.out fun g hg => hb6.block g (HR5.out.lt g hg).2); have HB6 := Lib.hid (below_mono HB5.out hb6 (Nat.le_refl _)); clear hb6))
                clear HU5 HR5 HB5 HU HR HB CK CS HK5 HSk HZ
                go_wp2_with fail
                go_loopw [13] (fun i wr => ∃ t : Nat, t ≤ c ∧ i = .int .i64 t ∧ Hid (wr.ownsRow b3 9 1 (.slice da c dc) c (T.reverse.map kv)) ∧ Hid (wr.ownsRow b2 9 1 (.slice va c vc) c (T.map kv)) ∧ Hid (Below w.heap.size w wr)) (fun i _ => c - (intOf i).toNat)
                case atStart => exact ⟨0, by omega, rfl, HR6, HU6, HB6⟩
                case round =>
                  clear HU6 HR6 HB6
                  obtain ⟨t, ht, rfl, HR, HU, HB⟩ := hrel
                  have ht0 : (0 : Int) ≤ (t : Int) := by omega
                  by_cases hlt : t < c
                  · have hti : (t : Int) < (c : Int) := by omega
                    obtain ⟨q, hq⟩ : ∃ q : Nat, q = c - 1 - t := ⟨_, rfl⟩
                    have hq1 : (c : Int) - 1 - (t : Int) = (q : Int) := by omega
                    have hq2 : IntKind.i64.wrap ((c : Int) - 1) = (c : Int) - 1 := by rw [IntKind.wrap_i64]; omega
                    have hq3 : IntKind.i64.wrap ((c : Int) - 1 - (t : Int)) = (q : Int) := by rw [IntKind.wrap_i64]; omega
                    have hqc : (q : Int) < (c : Int) := by omega
                    have hq0 : (0 : Int) ≤ (q : Int) := by omega
                    obtain ⟨u1, hv1, x1⟩ := row_cell HU.out hlt
                    obtain ⟨u2, hv2, x2⟩ := row_cell HR.out (j := q) (by omega)
                    subst hv1 hv2
                    have hl := HC.out
                    obtain ⟨p, hp⟩ : ∃ p, T[t]? = some p := ⟨T[t]'(by omega), List.getElem?_eq_getElem _⟩
                    rw [List.getElem?_map, hp, Option.map_some, kv] at x1
                    rw [List.getElem?_map, List.getElem?_reverse (by omega), show T.length - 1 - q = t by omega, hp, Option.map_some, kv] at x2
                    obtain ⟨k, hk⟩ : ∃ k, k = p.k := ⟨_, rfl⟩
                    rw [← hk] at x1 x2
                    clear hp hk hq hl
                    go_wp2_with fail
                    go_quiet (fail)
                    go_wp2_with fail
                    go_roundw
                    case rel => exact ⟨t + 1, by omega, by go_num, Lib.hid (row_stay HR.out fun _ _ => rfl), Lib.hid (row_stay HU.out fun _ _ => rfl), Lib.hid (below_drewN HB.out _)⟩
                    case measure => simp [intOf]; omega
                  · obtain rfl : t = c := by omega
                    go_wp2_with fail
                    go_ret
                    exact ⟨rfl, HB.out⟩
              · rw [List.concat_eq_append] at HA HE
                have hk : kk = E.k ∧ b = true := by
                  rcases HE.out with ⟨h, _⟩ | ⟨E2, h, h2, h3⟩
                  · simp at h
                  · simp at h; subst h; exact ⟨h2, h3⟩
                obtain ⟨hk, rfl⟩ := hk
                have HK := Lib.hid hk
                have CB : Hid (∀ W, SkAt B m H mx A W → Calls Tryd.prog 28 #[.pointer (some ⟨m, 0, none⟩), .string kk] W fun e w' => e = .returned (tellV P.getLast?) ∧ Below W.heap.size W w') := Lib.hid fun W hW => by
                  rw [hk]
                  have so := hW.so
                  rw [HA.out, List.append_assoc] at hW so
                  exact ahead_any (As := P) (Bs := E :: T) hW E.k (cut_ahead so)
                obtain ⟨k2, y2, b2', hf2, ht2⟩ := tell_ex P.getLast?
                rw [hf2] at CB
                have HE2 := Lib.hid ht2
                have hnew : (wr.alloc (.cells #[.string kk] 9)).heap[wr.heap.size]? = some (.cells #[.string kk] 9 (0, 0)) := heap_alloc_new wr _
                have PN : Hid ((wr.alloc (.cells #[.string kk] 9)).cell? ⟨wr.heap.size, 0, none⟩ = some (.string kk)) := Lib.hid (cell_blk hnew 0)
                have RA := Lib.hid (HR.out.alloc (.cells #[.string kk] 9))
                have UA := Lib.hid (HU.out.alloc (.cells #[.string kk] 9))
                have SA := Lib.hid (HSk.out.under ((Below.refl _ _).alloc (Nat.le_refl _) (.cells #[.string kk] 9)))
                have BA := Lib.hid (HB.out.alloc HB.out.size (.cells #[.string kk] 9))
                have hb2a : b3 ≤ (wr.alloc (.cells #[.string kk] 9)).heap.size := by
                  have := HZ.out; simp; omega
                have HB2A := Lib.hid hb2a
                have hn5 : d ≤ 1000000 := by omega
                clear hnew hk hf2 ht2 hb2a
                go_wp2_with (first | (at_builtin; refine wpList_appK rfl _ _ rfl b3 d _ _ (.string kk) rfl rfl RA.out wr.heap.size rfl PN.out hn5 HB2A.out ?_; intro v2 w9 hrow hgr; have hB9 := Lib.hid (BA.out.grown hgr (by simp; have := HB.out.size; omega) (fun g hg => Nat.le_trans HB3z.out.2 (RA.out.lt g hg).1)); have hS9 := Lib.hid (SA.out.grown RA.out kinds3 hgr); have hU9 := Lib.hid (row_stay UA.out fun g hg => hgr.block g (UA.out.lt g hg).2 fun e2 => Nat.lt_irrefl _ (Nat.lt_of_lt_of_le (HUB.out g hg) (RA.out.lt g e2.symm).1)); have CB9 := Lib.hid (CB.out w9 hS9.out); have hR9 := Lib.hid hrow; have hZ9 := Lib.hid hgr.size; obtain ⟨va2, vc2, hv2⟩ := row_form hrow; subst hv2; clear hrow hgr) | (go_at_call 28; (with_reducible refine CB9.out.mono ?_); rintro e w10 ⟨rfl, hb10⟩; have hS10 := Lib.hid (hS9.out.under hb10); have hB10 := Lib.hid (below_mono hB9.out hb10 (Nat.le_refl _)); have hR10 := Lib.hid (row_stay hR9.out fun g hg => hb10.block g (hR9.out.lt g hg).2); have hU10 := Lib.hid (row_stay hU9.out fun g hg => hb10.block g (hU9.out.lt g hg).2); have hZ10 := Lib.hid (Nat.le_trans HB2A.out (Nat.le_trans hZ9.out hb10.size)); clear hb10))
                go_roundw
                case rel => exact ⟨P, E :: T, d + 1, k2, b2', Lib.hid (by rw [HA.out]; simp), Lib.hid (by rw [HC.out]; simp), rfl, rfl, HE2, Lib.hid (by rw [List.reverse_cons, List.map_append, List.map_cons, List.map_nil, kv, ← HK.out]; exact hR10.out), hU10, hS10, hZ10, hB10⟩
                case measure => simp [slen]; omega
  · have h1 : (150 : Int) < (n : Int) := by omega
    go_enter Tryd.func6, Tryd.ntmps6
    go_wp2_with (go_at_call 8; (with_reducible refine CA.out.mono ?_); rintro e w1 ⟨rfl, hb1⟩; have HB1 := Lib.hid hb1; clear hb1)
    go_ret
    exact ⟨rfl, HB1.out⟩
end sk
end Go.Proofs.YtnganclkjoiggaaDoor
