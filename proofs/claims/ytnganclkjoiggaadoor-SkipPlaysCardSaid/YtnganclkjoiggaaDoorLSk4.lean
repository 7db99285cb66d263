/- The law SkipPlays walked: for every acts and every key the call returns true. Condition: the library's table of trailing zeros stands in memory. -/
import Derived.Test.YtnganclkjoiggaaDoorSkQs
import Derived.StillTailTactics
namespace Go.Proofs.YtnganclkjoiggaaDoor
open Go.RowKit Go.Maps Go.WideShapes
set_option linter.unusedVariables false
set_option linter.unusedSimpArgs false
namespace sk
set_option maxRecDepth 100000 in
set_option maxHeartbeats 16000000 in
theorem skipPlays_walk (ao : Option Addr) (cap : Nat) (xs : List (Int × ByteArray × Int)) (ask : ByteArray) (wc : xs.length ≤ cap) (wm : cap ≤ maxLen) (wx : ∀ x ∈ xs, (Lit.int .i64 x.1).wf = true ∧ x.2.1.size ≤ maxLen ∧ (Lit.int .i64 x.2.2).wf = true) (w1 : ask.size ≤ maxLen) (w : World) (hT : TzAt w) (hs : AcAt w.heap.size ao xs w) :
    Calls Tryd.prog 3 #[.slice ao xs.length cap, .string ask] w fun e w' => e = .returned (.bool true) ∧ Below w.heap.size w w' := by
  obtain ⟨n, hn⟩ : ∃ n, n = xs.length := ⟨_, rfl⟩
  rw [← hn]
  have HN := Lib.hid hn
  have CA := Lib.hid (awake_any w hT)
  have hm : n ≤ maxLen := by omega
  unfold maxLen at hm
  have HT : Hid (∀ W, Below w.heap.size w W → TzAt W) := Lib.hid fun W hb => hT.next hb
  have HG : Hid (0 < w.heap.size) := Lib.hid hT.pos
  have HS : Hid (∀ W, Below w.heap.size w W → AcAt w.heap.size ao xs W) := Lib.hid fun W hb => hs.under hb
  clear hT hs wc wm wx hn w1
  by_cases h100 : n ≤ 100
  · have h1 : ¬ (100 : Int) < (n : Int) := by omega
    go_enter Tryd.func3, Tryd.ntmps3
    go_upto_region 3 with (go_at_call 8; (with_reducible refine CA.out.mono ?_); rintro e w1 ⟨rfl, hb1⟩; have HB1 := Lib.hid hb1; clear hb1)
    have CN := Lib.hid (new_any w1)
    go_wp2_with fail
    refine CN.out.mono ?_
    rintro e w2 ⟨H, rfl, hs2, hb2⟩
    obtain ⟨B, hB⟩ : ∃ B, B = w1.heap.size := ⟨_, rfl⟩
    rw [← hB] at hs2 ⊢
    obtain ⟨m, hm2⟩ : ∃ m, m = B + 2 := ⟨_, rfl⟩
    rw [← hm2] at hs2 ⊢
    have P2 : Hid (PlayAt w B m H [] [] none 0 0 0 w2) := Lib.hid ⟨⟨_, hs2⟩, World.ownsRow_nil _ _ _ _, ⟨by simp, by simp⟩, below_mono HB1.out hb2 (Nat.le_refl _), by rw [hB]; exact HB1.out.size⟩
    have HGB : Hid (0 < B) := Lib.hid (by rw [hB]; exact Nat.lt_of_lt_of_le HG.out HB1.out.size)
    clear hs2 hb2 hm2 CN hB HB1
    go_wp2_with fail
    go_loopw [6, 7] (fun v i wr => ∃ (j : Nat) (ns : List Nd) (va : Option Addr) (n2 vc : Nat), j ≤ n ∧ i = .int .i64 j ∧ v = .slice va n2 vc ∧ Hid (PlayAt w B m H ns ns va n2 vc j wr)) (fun _ i _ => n - (intOf i).toNat)
    case atStart => exact ⟨0, [], none, 0, 0, by omega, rfl, rfl, P2⟩
    case round =>
      clear P2
      obtain ⟨j, ns, va, n2, vc, hj, rfl, rfl, HP⟩ := hrel
      have hj0 : (0 : Int) ≤ (j : Int) := by omega
      by_cases hlt : j < n
      · have hji : (j : Int) < (n : Int) := by omega
        have hlx : 0 < xs.length := by rw [← HN.out]; omega
        obtain ⟨a, rfl⟩ := (HS.out wr HP.out.bel).there hlx
        obtain ⟨⟨kd, key, val⟩, hx⟩ : ∃ x, xs[j]? = some x := ⟨xs[j]'(by rw [← HN.out]; exact hlt), List.getElem?_eq_getElem _⟩
        have CELL : Hid (∀ W, Below w.heap.size w W → W.cell? (a.add (j * 3)) = some (.int .i64 kd) ∧ W.cell? ⟨(a.add (j * 3)).block, (a.add (j * 3)).off + 1, none⟩ = some (.string key) ∧ W.cell? ⟨(a.add (j * 3)).block, (a.add (j * 3)).off + 2, none⟩ = some (.int .i64 val)) := Lib.hid fun W hW => ((HS.out W hW).cells a rfl hlx).2 j _ hx
        obtain ⟨z0, z1, z2⟩ := CELL.out wr HP.out.bel
        have CF := Lib.hid (HP.out.find key (by omega))
        clear hx hlx
        go_upto_region 9 with (go_at_call 10; (with_reducible refine CF.out.mono ?_); rintro e w3 ⟨rfl, hp3⟩; have HP3 := Lib.hid hp3; clear hp3)
        clear z0 z1 z2 HP CF
        obtain ⟨q, hq⟩ : ∃ q, q = isAt (cutB ns key) key := ⟨_, rfl⟩
        obtain ⟨g, hg⟩ : ∃ g, g = got (cutB ns key) key := ⟨_, rfl⟩
        obtain ⟨la, hla⟩ : ∃ g, g = (cutA ns key).length := ⟨_, rfl⟩
        rw [← hq, ← hla]
        have HQ := Lib.hid hq
        have HGT := Lib.hid hg
        have HV : Hid (q = true → ∃ b, va = some ⟨b, 0, none⟩ ∧ w3.cell? ⟨b, la * 2 + 1, none⟩ = some (.int .i64 g) ∧ la < n2) := Lib.hid fun h => by
          rw [hla, hg]
          exact HP3.out.value key (by rw [← hq]; exact h)
        have HV0 : Hid (q = false → g = 0) := Lib.hid fun h => by rw [hg]; exact got_no (by rw [← hq]; exact h)
        clear hq hg hla
        obtain ⟨z0, z1, z2⟩ := CELL.out w3 HP3.out.bel
        cases q with
        | true =>
          obtain ⟨b, rfl, hcell, hlan⟩ := HV.out rfl
          have hla1 : (la : Int) < (n2 : Int) := by omega
          have hla0 : (0 : Int) ≤ (la : Int) := by omega
          clear HV HV0 hlan
          go_upto_region 12 with fail
          clear hcell z0 z1 z2
          by_cases hk0 : kd = 0
          · subst hk0
            have HD3 : Hid (PlayAt w B m H ns ns (some ⟨b, 0, none⟩) n2 vc j w3.drew) := Lib.hid (HP3.out.under (Below.refl _ w3).drew)
            have CP := Lib.hid (HD3.out.put key val (HT.out _ HD3.out.bel) HGB.out (by omega))
            rw [← HGT.out, ← HQ.out] at CP
            clear HD3
            obtain ⟨z0, z1, z2⟩ := CELL.out w3 HP3.out.bel
            go_upto_region 16 with fail
            go_cut [11, 12] (fun x y wx => x = .int .i64 g ∧ y = .bool true ∧ Hid (∃ ns', (∃ a b, PutR ns key val ns' a b) ∧ PlayAt w B m H ns' ns (some ⟨b, 0, none⟩) n2 vc (j + 1) wx))
            case first =>
              go_region_with (go_at_call 11; (with_reducible refine CP.out.mono ?_); rintro e w4 ⟨ns', rfl, hpr, hp4⟩; have HP4 := Lib.hid (And.intro hpr hp4); clear hpr hp4)
              all_goals
                go_wp2_with fail
                go_meet
                exact ⟨rfl, rfl, Lib.hid ⟨ns', HP4.out⟩⟩
            case rest =>
              clear CP z0 z1 z2 HP3
              obtain ⟨rfl, rfl, HX⟩ := hcut
              obtain ⟨ns', hpr, hp4⟩ := HX.out
              have HP4 := Lib.hid hp4
              have CW := Lib.hid (PlayAt.with_ (hp4.under (Below.refl _ wc).drew) key val hpr (by omega))
              clear hpr hp4 HX
              obtain ⟨z0, z1, z2⟩ := CELL.out wc HP4.out.bel
              go_upto_region 19 with fail
              go_region_with (go_at_call 12; (with_reducible refine CW.out.mono ?_); rintro e w5 ⟨va5, n5, vc5, rfl, hp5⟩; have HP5 := Lib.hid hp5; clear hp5)
              all_goals
                clear CW z0 z1 z2 HP4
                go_upto_region 25 with fail
                have CK1 := Lib.hid (HP5.out.looks key (by omega))
                obtain ⟨y0, y1, y2⟩ := CELL.out w5 HP5.out.bel
                clear CELL
                go_wp2_with (first | (go_at_call 16; (first | (with_reducible refine CK1.out.mono ?_) | (with_reducible refine CK2.out.mono ?_)); rintro e wq ⟨rfl, hpq⟩; first | (have HPR := Lib.hid hpq; clear HPY hpq) | (have HPY := Lib.hid hpq; have CK2 := Lib.hid (hpq.looks ask (by omega)); clear hpq CK1)))
                go_roundw
                case rel => exact ⟨j + 1, ns', va5, n5, vc5, by omega, by go_num, rfl, HPR⟩
                case measure => simp [intOf]; omega
          · have hk0' : (kd == 0) = false := by simpa using hk0
            by_cases hk1 : kd = 1
            · subst hk1
              have CP := Lib.hid (HP3.out.del key (by omega))
              rw [← HGT.out, ← HQ.out] at CP
              obtain ⟨z0, z1, z2⟩ := CELL.out w3 HP3.out.bel
              go_upto_region 22 with (go_at_call 13; (with_reducible refine CP.out.mono ?_); rintro e w4 ⟨ns', rfl, hpr, hp4⟩; have HP4 := Lib.hid hp4; have CW := Lib.hid (PlayAt.without hp4 key hpr (by omega)); clear hpr hp4)
              clear CP z0 z1 z2 HP3
              obtain ⟨z0, z1, z2⟩ := CELL.out w4 HP4.out.bel
              go_upto_region 25 with (go_at_call 14; (with_reducible refine CW.out.mono ?_); rintro e w5 ⟨va5, n5, vc5, rfl, hp5⟩; have HP5 := Lib.hid hp5; clear hp5)
              clear CW z0 z1 z2 HP4
              have CK1 := Lib.hid (HP5.out.looks key (by omega))
              obtain ⟨y0, y1, y2⟩ := CELL.out w5 HP5.out.bel
              clear CELL
              go_wp2_with (first | (go_at_call 16; (first | (with_reducible refine CK1.out.mono ?_) | (with_reducible refine CK2.out.mono ?_)); rintro e wq ⟨rfl, hpq⟩; first | (have HPR := Lib.hid hpq; clear HPY hpq) | (have HPY := Lib.hid hpq; have CK2 := Lib.hid (hpq.looks ask (by omega)); clear hpq CK1)))
              go_roundw
              case rel => exact ⟨j + 1, ns', va5, n5, vc5, by omega, by go_num, rfl, HPR⟩
              case measure => simp [intOf]; omega
            · have hk1' : (kd == 1) = false := by simpa using hk1
              have CP := Lib.hid HP3.out.clear
              obtain ⟨z0, z1, z2⟩ := CELL.out w3 HP3.out.bel
              go_upto_region 25 with (go_at_call 15; (with_reducible refine CP.out.mono ?_); rintro e w4 ⟨rfl, hp4⟩; have HP4 := Lib.hid hp4; clear hp4)
              clear CP z0 z1 z2 HP3
              have CK1 := Lib.hid (HP4.out.looks key (by omega))
              obtain ⟨y0, y1, y2⟩ := CELL.out w4 HP4.out.bel
              clear CELL
              go_wp2_with (first | (go_at_call 16; (first | (with_reducible refine CK1.out.mono ?_) | (with_reducible refine CK2.out.mono ?_)); rintro e wq ⟨rfl, hpq⟩; first | (have HPR := Lib.hid hpq; clear HPY hpq) | (have HPY := Lib.hid hpq; have CK2 := Lib.hid (hpq.looks ask (by omega)); clear hpq CK1)))
              go_roundw
              case rel => exact ⟨j + 1, [], none, 0, 0, by omega, by go_num, rfl, HPR⟩
              case measure => simp [intOf]; omega
        | false =>
          obtain rfl := HV0.out rfl
          clear HV HV0
          go_upto_region 12 with fail
          clear z0 z1 z2
          by_cases hk0 : kd = 0
          · subst hk0
            have HD3 : Hid (PlayAt w B m H ns ns va n2 vc j w3.drew) := Lib.hid (HP3.out.under (Below.refl _ w3).drew)
            have CP := Lib.hid (HD3.out.put key val (HT.out _ HD3.out.bel) HGB.out (by omega))
            rw [← HGT.out, ← HQ.out] at CP
            clear HD3
            obtain ⟨z0, z1, z2⟩ := CELL.out w3 HP3.out.bel
            go_upto_region 16 with fail
            go_cut [11, 12] (fun x y wx => x = .int .i64 0 ∧ y = .bool false ∧ Hid (∃ ns', (∃ a b, PutR ns key val ns' a b) ∧ PlayAt w B m H ns' ns va n2 vc (j + 1) wx))
            case first =>
              go_region_with (go_at_call 11; (with_reducible refine CP.out.mono ?_); rintro e w4 ⟨ns', rfl, hpr, hp4⟩; have HP4 := Lib.hid (And.intro hpr hp4); clear hpr hp4)
              all_goals
                go_wp2_with fail
                go_meet
                exact ⟨rfl, rfl, Lib.hid ⟨ns', HP4.out⟩⟩
            case rest =>
              clear CP z0 z1 z2 HP3
              obtain ⟨rfl, rfl, HX⟩ := hcut
              obtain ⟨ns', hpr, hp4⟩ := HX.out
              have HP4 := Lib.hid hp4
              have CW := Lib.hid (PlayAt.with_ (hp4.under (Below.refl _ wc).drew) key val hpr (by omega))
              clear hpr hp4 HX
              obtain ⟨z0, z1, z2⟩ := CELL.out wc HP4.out.bel
              go_upto_region 19 with fail
              go_region_with (go_at_call 12; (with_reducible refine CW.out.mono ?_); rintro e w5 ⟨va5, n5, vc5, rfl, hp5⟩; have HP5 := Lib.hid hp5; clear hp5)
              all_goals
                clear CW z0 z1 z2 HP4
                go_upto_region 25 with fail
                have CK1 := Lib.hid (HP5.out.looks key (by omega))
                obtain ⟨y0, y1, y2⟩ := CELL.out w5 HP5.out.bel
                clear CELL
                go_wp2_with (first | (go_at_call 16; (first | (with_reducible refine CK1.out.mono ?_) | (with_reducible refine CK2.out.mono ?_)); rintro e wq ⟨rfl, hpq⟩; first | (have HPR := Lib.hid hpq; clear HPY hpq) | (have HPY := Lib.hid hpq; have CK2 := Lib.hid (hpq.looks ask (by omega)); clear hpq CK1)))
                go_roundw
                case rel => exact ⟨j + 1, ns', va5, n5, vc5, by omega, by go_num, rfl, HPR⟩
                case measure => simp [intOf]; omega
          · have hk0' : (kd == 0) = false := by simpa using hk0
            by_cases hk1 : kd = 1
            · subst hk1
              have CP := Lib.hid (HP3.out.del key (by omega))
              rw [← HGT.out, ← HQ.out] at CP
              obtain ⟨z0, z1, z2⟩ := CELL.out w3 HP3.out.bel
              go_upto_region 22 with (go_at_call 13; (with_reducible refine CP.out.mono ?_); rintro e w4 ⟨ns', rfl, hpr, hp4⟩; have HP4 := Lib.hid hp4; have CW := Lib.hid (PlayAt.without hp4 key hpr (by omega)); clear hpr hp4)
              clear CP z0 z1 z2 HP3
              obtain ⟨z0, z1, z2⟩ := CELL.out w4 HP4.out.bel
              go_upto_region 25 with (go_at_call 14; (with_reducible refine CW.out.mono ?_); rintro e w5 ⟨va5, n5, vc5, rfl, hp5⟩; have HP5 := Lib.hid hp5; clear hp5)
              clear CW z0 z1 z2 HP4
              have CK1 := Lib.hid (HP5.out.looks key (by omega))
              obtain ⟨y0, y1, y2⟩ := CELL.out w5 HP5.out.bel
              clear CELL
              go_wp2_with (first | (go_at_call 16; (first | (with_reducible refine CK1.out.mono ?_) | (with_reducible refine CK2.out.mono ?_)); rintro e wq ⟨rfl, hpq⟩; first | (have HPR := Lib.hid hpq; clear HPY hpq) | (have HPY := Lib.hid hpq; have CK2 := Lib.hid (hpq.looks ask (by omega)); clear hpq CK1)))
              go_roundw
              case rel => exact ⟨j + 1, ns', va5, n5, vc5, by omega, by go_num, rfl, HPR⟩
              case measure => simp [intOf]; omega
            · have hk1' : (kd == 1) = false := by simpa using hk1
              have CP := Lib.hid HP3.out.clear
              obtain ⟨z0, z1, z2⟩ := CELL.out w3 HP3.out.bel
              go_upto_region 25 with (go_at_call 15; (with_reducible refine CP.out.mono ?_); rintro e w4 ⟨rfl, hp4⟩; have HP4 := Lib.hid hp4; clear hp4)
              clear CP z0 z1 z2 HP3
              have CK1 := Lib.hid (HP4.out.looks key (by omega))
              obtain ⟨y0, y1, y2⟩ := CELL.out w4 HP4.out.bel
              clear CELL
              go_wp2_with (first | (go_at_call 16; (first | (with_reducible refine CK1.out.mono ?_) | (with_reducible refine CK2.out.mono ?_)); rintro e wq ⟨rfl, hpq⟩; first | (have HPR := Lib.hid hpq; clear HPY hpq) | (have HPY := Lib.hid hpq; have CK2 := Lib.hid (hpq.looks ask (by omega)); clear hpq CK1)))
              go_roundw
              case rel => exact ⟨j + 1, [], none, 0, 0, by omega, by go_num, rfl, HPR⟩
              case measure => simp [intOf]; omega
      · obtain rfl : j = n := by omega
        obtain ⟨mx, hsk⟩ := HP.out.sk
        have CK := Lib.hid (keys_any hsk (by have := HP.out.cnt; omega))
        have hn2 := HP.out.len
        rw [← hn2] at CK
        have HN2 := Lib.hid hn2
        clear hsk hn2
        go_upto_region 28 with (go_at_call 17; (with_reducible refine CK.out.mono ?_); rintro e w5 ⟨ka, kc, rfl, hk5, hb5⟩; have HK5 := Lib.hid hk5; have HP5 := Lib.hid (HP.out.under hb5); clear hk5 hb5)
        clear CK HP
        have hn100 : n2 ≤ 1000 := by have := HN2.out; have := HP5.out.cnt; omega
        go_wp2_with fail
        go_loopw [16] (fun i wr => ∃ t : Nat, t ≤ n2 ∧ i = .int .i64 t ∧ Hid (Below w5.heap.size w5 wr)) (fun i _ => n2 - (intOf i).toNat)
        case atStart => exact ⟨0, by omega, rfl, Lib.hid (Below.refl _ _)⟩
        case round =>
          obtain ⟨t, ht, rfl, HB⟩ := hrel
          have ht0 : (0 : Int) ≤ (t : Int) := by omega
          by_cases hlt2 : t < n2
          · have hti : (t : Int) < (n2 : Int) := by omega
            obtain ⟨p, hp⟩ : ∃ p, ns[t]? = some p := ⟨ns[t]'(by rw [← HN2.out]; exact hlt2), List.getElem?_eq_getElem _⟩
            have hk := row_stay HK5.out fun g hg => HB.out.block g (HK5.out.lt g hg).2
            have hu := HP5.out.under HB.out
            obtain ⟨b1, hv1, x1⟩ := row_cell hk hlt2
            obtain ⟨b2, hv2, x2, _⟩ := pair_cells hu.row hu.len hp
            subst hv1 hv2
            rw [List.getElem?_map, hp, Option.map_some, kv] at x1
            obtain ⟨k, hkk⟩ : ∃ k, k = p.k := ⟨_, rfl⟩
            rw [← hkk] at x1 x2
            clear hp hk hu hkk
            go_wp2_with fail
            go_quiet (fail)
            go_wp2_with fail
            go_roundw
            case rel => exact ⟨t + 1, by omega, by go_num, Lib.hid (below_drewN HB.out _)⟩
            case measure => simp [intOf]; omega
          · obtain rfl : t = n2 := by omega
            go_wp2_with fail
            go_ret
            exact ⟨rfl, below_mono HP5.out.bel HB.out (Nat.le_refl _)⟩
  · have h1 : (100 : Int) < (n : Int) := by omega
    go_enter Tryd.func3, Tryd.ntmps3
    go_wp2_with (go_at_call 8; (with_reducible refine CA.out.mono ?_); rintro e w1 ⟨rfl, hb1⟩; have HB1 := Lib.hid hb1; clear hb1)
    go_ret
    exact ⟨rfl, HB1.out⟩
end sk
end Go.Proofs.YtnganclkjoiggaaDoor
