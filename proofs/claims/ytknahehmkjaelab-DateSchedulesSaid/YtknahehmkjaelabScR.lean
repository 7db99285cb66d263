/- What the document's Schedule answers: the days, walked. Conditions: those written at each theorem. -/
import Derived.Test.YtknahehmkjaelabScB
import Derived.Test.YtknahehmkjaelabLAdj
namespace Go.Proofs.Ytknahehmkjaelab
open Go.RowKit Go.Sort
set_option linter.unusedSimpArgs false
set_option linter.unusedVariables false

theorem ins_getD (R : List Int) (k b : Nat) (y : Int) (hb : b < k) (hk : k ≤ R.length) : (R.take k ++ y :: R.drop k).getD b 0 = R.getD b 0 := by
  simp only [List.getD_eq_getElem?_getD]
  rw [List.getElem?_append_left (by simp; omega), List.getElem?_take]
  simp [hb]
theorem ins_at (R : List Int) (k : Nat) (y : Int) (hk : k ≤ R.length) : (R.take k ++ y :: R.drop k).getD k 0 = y := by
  simp only [List.getD_eq_getElem?_getD]
  rw [List.getElem?_append_right (by simp; omega)]
  simp [Nat.min_eq_left hk]
theorem ins_put (R : List Int) (k : Nat) (y m : Int) (hk : k ≤ R.length) : (R.take k ++ y :: R.drop k).set k m = R.take k ++ m :: R.drop k := by
  rw [List.set_append_right _ _ (by simp; omega)]
  simp [Nat.min_eq_left hk]
theorem ins_down (R : List Int) (b : Nat) (y : Int) (hb : b < R.length) : (R.take (b + 1) ++ y :: R.drop (b + 1)).set (b + 1) (R.getD b 0) = R.take b ++ R.getD b 0 :: R.drop b := by
  rw [ins_put R (b + 1) y _ (by omega), List.take_succ_eq_append_getElem hb, List.append_assoc, List.drop_eq_getElem_cons hb]
  simp [List.getD_eq_getElem?_getD, hb]

theorem strict_getD {R : List Int} (h : R.Pairwise (· < ·)) {i j : Nat} (hij : i < j) (hj : j < R.length) : R.getD i 0 < R.getD j 0 := by
  have := List.pairwise_iff_getElem.1 h i j (by omega) hj hij
  simpa [List.getD_eq_getElem?_getD, show i < R.length by omega, hj] using this
set_option maxRecDepth 100000 in
set_option maxHeartbeats 4000000 in
theorem rsched_go (fr tq mo rule : Int) (ao : Option Addr) (cap : Nat) (hs : List Int) (g : Nat → Int) (F : Int → Int) (f0 : 0 ≤ fr) (t1 : tq ≤ 2932896) (ft : fr < tq) (m0 : 1 ≤ mo) (m1 : mo ≤ 1200) (hg0 : g 0 = fr)
    (hx : hs.length ≤ 1000) (G1 : Hid (∀ k : Nat, 1 ≤ k → k ≤ 400 → ∀ W, Calls Try.prog 12 #[.int .i64 fr, .int .i64 (k * mo)] W fun e w' => e = .returned (.int .i64 (g k)) ∧ Below W.heap.size W w')) (GL : Hid (∀ k, -1 ≤ g k))
    (FA : Hid (∀ n W, SAt W.heap.size ao (ints hs) W → Calls Try.prog 15 #[.int .i64 n, .int .i64 rule, .slice ao hs.length cap] W fun e w' => e = .returned (.int .i64 (F n)) ∧ Below W.heap.size W w')) (FL : Hid (∀ n, -1 ≤ F n))
    (w : World) (h : Hid (SAt w.heap.size ao (ints hs) w)) :
    Calls Try.prog 21 #[.int .i64 fr, .int .i64 tq, .int .i64 mo, .int .i64 rule, .slice ao hs.length cap] w (TellsDays (fun R ok => SchAns g F tq R ok) w) := by
  obtain ⟨i0, hi, hz0, hz1, hz2⟩ := info_parts intInfo
  have K0 := Lib.hid (Below.refl w.heap.size w)
  have u0 : ¬ fr < 0 := by omega
  have u1 : ¬ tq ≤ fr := by omega
  have u2 : ¬ mo < 1 := by omega
  have u3 : ¬ 1200 < mo := by omega
  have u4 : ¬ 2932896 < tq := by omega
  go_enter Try.func21, Try.ntmps21
  go_upto_block 0 with fail
  go_cut [12] (fun v wx => ∃ K, Hid (Stop g tq K) ∧ Hid (wx.ownsRow w.heap.size 3 1 v K (ints (dl g K))) ∧ Hid (Below w.heap.size w wx))
  case first =>
    go_wp2_with fail
    go_loopw [12, 13] (fun v kk wr => ∃ K : Nat, 1 ≤ K ∧ K ≤ 401 ∧ kk = .int .i64 K ∧ Hid (∀ i, 1 ≤ i → i < K → 0 ≤ g i ∧ g i < tq) ∧ Hid (wr.ownsRow w.heap.size 3 1 v K (ints (dl g K))) ∧ Hid (Below w.heap.size w wr)) (fun _ kk _ => 402 - (intOf kk).toNat)
    case atStart => exact ⟨1, by omega, by omega, rfl, Lib.hid (fun i _ _ => by omega), Lib.hid (by rw [dl_one, hg0]; exact World.ownsRow_lit w #[.int .i64 fr] 1 (Nat.le_refl _) (by decide) rfl), Lib.hid (K0.out.alloc (Nat.le_refl _) _)⟩
    case round =>
      obtain ⟨K, k1, k2, rfl, HG, HOWN, HBE⟩ := hrel
      clear K0 FA FL h
      by_cases hk : K ≤ 400
      · have t400 : (K : Int) ≤ 400 := by omega
        obtain ⟨P, hP⟩ : ∃ P : Int, P = (K : Int) * mo := ⟨_, rfl⟩
        have hP0 : 0 ≤ P := by rw [hP]; exact Int.mul_nonneg (by omega) (by omega)
        have hP1 : P ≤ 480000 := by rw [hP]; exact Int.le_trans (Int.mul_le_mul t400 m1 (by omega) (by omega)) (by decide)
        have x1 : IntKind.i64.wrap ((K : Int) * mo) = P := by rw [IntKind.wrap_i64, ← hP]; omega
        have C1 : Hid (∀ W, Calls Try.prog 12 #[.int .i64 fr, .int .i64 P] W fun e w' => e = .returned (.int .i64 (g K)) ∧ Below W.heap.size W w') := Lib.hid (by rw [hP]; exact G1.out K k1 hk)
        have gk := GL.out K
        obtain ⟨n, hn⟩ : ∃ n, n = g K := ⟨_, rfl⟩
        rw [← hn] at C1 gk
        have HNN := Lib.hid hn
        clear hn hP hP0 hP1 G1
        go_wp2_with fail
        with_reducible refine (C1.out _).mono ?_
        rintro e w1 ⟨rfl, hB1⟩
        have HOWN1 := Lib.hid (own_under HOWN.out hB1 (fun g e => (HOWN.out.lt g e).2))
        have HBE1 := Lib.hid (below_mono HBE.out hB1 (Nat.le_refl _))
        clear hB1 HOWN HBE C1
        by_cases hneg : n < 0
        · go_wp2_with fail
          go_meet
          exact ⟨K, Lib.hid ⟨k1, k2, HG.out, .inr (.inl (by rw [← HNN.out]; exact hneg))⟩, HOWN1, HBE1⟩
        · by_cases hto : tq ≤ n
          · go_wp2_with fail
            go_meet
            exact ⟨K, Lib.hid ⟨k1, k2, HG.out, .inr (.inr (by rw [← HNN.out]; exact hto))⟩, HOWN1, HBE1⟩
          · have hown1 := HOWN1.out
            have hp3 : K + 1 ≤ maxLen := by unfold maxLen; omega
            have hp4 : (K + 1) * 8 ≤ 140737488355328 := by omega
            have hp5 : w.heap.size ≤ w1.heap.size := HBE1.out.size
            go_wp2_with (at_builtin; refine wpList_append_own _ rfl _ _ 28 rfl w.heap.size 3 i0 (.int .i64 0) 1 8 Try.underlying28 hi hz0 hz1 hz2 rfl (by decide) _ _ _ rfl (hown1.alloc _) ⟨w1.heap.size, 0, none⟩ 1 1 [.int .i64 n] rfl rfl (one_new w1 _ _) (one_one _ rfl) hp3 hp4 (le_alloc hp5 _) ?_)
            intro v' w3 hown' hgrow _
            have HO := Lib.hid hown'
            have HC := Lib.hid ((HBE1.out.alloc (by have := HBE1.out.size; omega) (.cells #[.int .i64 n] 3)).grown hgrow (by have := HBE1.out.size; simp; omega) (fun i hi => (hown1.lt i hi).1))
            clear hown' hgrow hown1 hp3 hp4 hp5
            go_wp2_with fail
            go_roundw
            case rel => exact ⟨K + 1, by omega, by omega, by go_num, Lib.hid (fun i h1 h2 => by
              rcases Nat.lt_or_ge i K with hl | hg
              · exact HG.out i h1 hl
              · obtain rfl : i = K := by omega
                rw [← HNN.out]; omega), Lib.hid (by have := HO.out; rw [dl_succ, ← HNN.out]; simpa [ints] using this), HC⟩
            case measure => simp [intOf]; omega
      · have t400 : ¬ (K : Int) ≤ 400 := by omega
        go_wp2_with fail
        go_meet
        exact ⟨K, Lib.hid ⟨k1, k2, HG.out, .inl (by omega)⟩, HOWN, HBE⟩
  case rest =>
    obtain ⟨K, HS, HOWN, HBE⟩ := hcut
    have k1 := HS.out.low
    have k2 := HS.out.high
    obtain ⟨gb, cp, rfl, hgb, hlt⟩ := HOWN.out.form (by omega)
    clear K0 G1 GL
    have hown1 := HOWN.out
    have hp3 : K + 1 ≤ maxLen := by unfold maxLen; omega
    have hp4 : (K + 1) * 8 ≤ 140737488355328 := by omega
    have hp5 : w.heap.size ≤ wc.heap.size := HBE.out.size
    go_wp2_with (at_builtin; refine wpList_append_own _ rfl _ _ 28 rfl w.heap.size 3 i0 (.int .i64 0) 1 8 Try.underlying28 hi hz0 hz1 hz2 rfl (by decide) _ _ _ rfl (hown1.alloc _) ⟨wc.heap.size, 0, none⟩ 1 1 [.int .i64 tq] rfl rfl (one_new wc _ _) (one_one _ rfl) hp3 hp4 (le_alloc hp5 _) ?_)
    intro v' w3 hown' hgrow _
    have HO : Hid (w3.ownsRow w.heap.size 3 1 v' (K + 1) (ints (dl g K ++ [tq]))) := Lib.hid (by have := hown'; simpa [ints] using this)
    have HC := Lib.hid ((HBE.out.alloc (by have := HBE.out.size; omega) (.cells #[.int .i64 tq] 3)).grown hgrow (by have := HBE.out.size; simp; omega) (fun i hi => (hown1.lt i hi).1))
    clear hown' hgrow hown1 hp3 hp4 hp5 HOWN HBE hgb hlt
    obtain ⟨gb, cp, rfl, hgb, hlt⟩ := HO.out.form (by omega)
    obtain ⟨L, hL⟩ : ∃ L, L = dl g K ++ [tq] := ⟨_, rfl⟩
    have hLl : L.length = K + 1 := by rw [hL]; simp [dl_len]
    rw [← hL] at HO
    have HL := Lib.hid hL
    clear hL
    by_cases h400 : 400 ≤ K
    · have t4 : (400 : Int) < (K : Int) + 1 := by omega
      go_wp2_with fail
      go_ret2
      exact ⟨[], false, none, 0, rfl, sch_much HS.out h400, by simp, SAt.nil _ _ _, HC.out, fun a e => by cases e⟩
    · have t4 : ¬ (400 : Int) < (K : Int) + 1 := by omega
      have K3 := Lib.hid (Below.refl w3.heap.size w3)
      go_wp2_with fail
      go_loopw [15, 16] (fun v ii wr => ∃ (i : Nat) (R : List Int), i ≤ K + 1 ∧ ii = .int .i64 i ∧ R.length ≤ i ∧ Hid (R.Pairwise (· < ·) ∧ ∀ x, x ∈ R ↔ x ∈ (L.take i).map F) ∧ Hid (∀ x ∈ L.take i, 0 ≤ F x) ∧ Hid (wr.ownsRow w3.heap.size 3 1 v R.length (ints R)) ∧ Hid (Below w3.heap.size w3 wr)) (fun _ ii _ => K + 2 - (intOf ii).toNat)
      case atStart => exact ⟨0, [], by omega, rfl, by simp, Lib.hid ⟨List.Pairwise.nil, fun x => by simp⟩, Lib.hid (fun x hx => by simp at hx), Lib.hid (World.ownsRow_nil _ _ _ _), K3⟩
      case round =>
        obtain ⟨i, R, hi1, rfl, hRl, HR, HP, HOUT, HBE⟩ := hrel
        clear K3
        obtain ⟨oa, oc, rfl, hoc, _, _⟩ := own_sat HOUT.out
        by_cases hlast : i < K + 1
        · obtain ⟨n0, hn⟩ : ∃ n, n = L.getD i 0 := ⟨_, rfl⟩
          have x1 : wr.cell? ⟨gb, i, none⟩ = some (.int .i64 n0) := by
            rw [HBE.out.cell (p := ⟨gb, i, none⟩) hlt, HO.out.cellAt i (by omega), getD_ints (by omega), ← hn]
          have i1 : (i : Int) < (K : Int) + 1 := by omega
          have i2 : (0 : Int) ≤ (i : Int) := by omega
          have HN := Lib.hid hn
          have HBW := Lib.hid (below_mono HC.out HBE.out (Nat.le_refl _))
          clear hn
          go_wp2_with fail
          with_reducible refine (FA.out n0 _ ((h.out.under HBW.out).mono HBW.out.size)).mono ?_
          rintro e w5 ⟨rfl, hB5⟩
          have HOUT5 := Lib.hid (own_under HOUT.out hB5 (fun g e => (HOUT.out.lt g e).2))
          have HBE5 := Lib.hid (below_mono HBE.out hB5 (Nat.le_refl _))
          have HBW5 := Lib.hid (below_mono HBW.out hB5 (Nat.le_refl _))
          obtain ⟨m, hm⟩ : ∃ m, m = F n0 := ⟨_, rfl⟩
          have ml := FL.out n0
          rw [← hm] at ml ⊢
          have HM := Lib.hid hm
          clear hm hB5 HOUT HBE HBW x1
          by_cases h0 : m < 0
          · go_wp2_with fail
            go_ret2
            refine ⟨[], false, none, 0, rfl, sch_none HS.out (x := n0) ?_ (by rw [← HM.out]; exact h0), by simp, SAt.nil _ _ _, HBW5.out, fun a e => by cases e⟩
            rw [← HL.out, HN.out]
            have : i < L.length := by omega
            simp [List.getD_eq_getElem?_getD, this]
          · have h0 : 0 ≤ m := by omega
            have h0' : ¬ m < 0 := by omega
            have xo := HOUT5.out.1
            go_upto_block 4 with fail
            go_cut [18] (fun aa wx => ∃ a : Nat, a ≤ R.length ∧ aa = .int .i64 a ∧ Hid (∀ j, j < a → R.getD j 0 < m) ∧ Hid (∀ j, a ≤ j → j < R.length → m ≤ R.getD j 0) ∧ w5 = wx)
            case first =>
              go_wp2_with fail
              go_loopw [18] (fun aa wx => ∃ a : Nat, a ≤ R.length ∧ aa = .int .i64 a ∧ Hid (∀ j, a ≤ j → j < R.length → m ≤ R.getD j 0) ∧ w5 = wx) (fun aa _ => (intOf aa).toNat)
              case atStart => exact ⟨R.length, Nat.le_refl _, rfl, Lib.hid (fun j h1 h2 => by omega), rfl⟩
              case round =>
                obtain ⟨a, ha, rfl, HA, rfl⟩ := hrel
                by_cases a0 : 0 < a
                · obtain ⟨b, rfl⟩ : ∃ b, a = b + 1 := ⟨a - 1, by omega⟩
                  obtain ⟨g2, c2, e2, hg2, hlt2⟩ := HOUT5.out.form (by omega)
                  cases e2
                  obtain ⟨y, hy⟩ : ∃ y, y = R.getD b 0 := ⟨_, rfl⟩
                  have q2 : w5.cell? ⟨g2, b, none⟩ = some (.int .i64 y) := by
                    rw [HOUT5.out.cellAt b (by omega), getD_ints (by omega), ← hy]
                  have q1 : (0 : Int) < (b : Int) + 1 := by omega
                  have q5 : (b : Int) < (R.length : Int) := by omega
                  have q7 : (0 : Int) ≤ (b : Int) := by omega
                  have q8 : b < R.length := by omega
                  have HY := Lib.hid hy
                  clear hy
                  by_cases hy : m ≤ y
                  · go_wp2_with fail
                    go_roundw
                    case rel => exact ⟨b, by omega, by go_num, Lib.hid (fun j h1 h2 => by
                      rcases Nat.lt_or_ge b j with hl | hg
                      · exact HA.out j (by omega) h2
                      · obtain rfl : j = b := by omega
                        rw [← HY.out]; exact hy), trivial⟩
                    case measure => simp [intOf]
                  · go_wp2_with fail
                    go_meet
                    exact ⟨b + 1, ha, by go_num, Lib.hid (fun j h1 => by
                      have hb : R.getD b 0 < m := by rw [← HY.out]; omega
                      rcases Nat.lt_or_ge j b with hl | hg
                      · exact Int.lt_trans (strict_getD HR.out.1 hl q8) hb
                      · obtain rfl : j = b := by omega
                        exact hb), HA, rfl⟩
                · obtain rfl : a = 0 := by omega
                  go_wp2_with fail
                  go_meet
                  exact ⟨0, by omega, by go_num, Lib.hid (fun j h1 => by omega), HA, rfl⟩
            case rest =>
              obtain ⟨a, ha, rfl, HLO, HHI, rfl⟩ := hcut
              by_cases hat : a < R.length
              · obtain ⟨g1, c1, e2, hg1, hlt1⟩ := HOUT5.out.form (by omega)
                cases e2
                obtain ⟨y, hy⟩ : ∃ y, y = R.getD a 0 := ⟨_, rfl⟩
                have q2 : w5.cell? ⟨g1, a, none⟩ = some (.int .i64 y) := by
                  rw [HOUT5.out.cellAt a (by omega), getD_ints (by omega), ← hy]
                have q5 : (a : Int) < (R.length : Int) := by omega
                have q7 : (0 : Int) ≤ (a : Int) := by omega
                have HY := Lib.hid hy
                clear hy
                by_cases hy : y = m
                · have hy1 : (y == m) = true := by simp [hy]
                  have hmem : m ∈ R := by
                    rw [← hy, HY.out]
                    simp [List.getD_eq_getElem?_getD, hat]
                  have HRR : Hid (R.Pairwise (· < ·) ∧ ∀ x, x ∈ R ↔ x ∈ (L.take (i + 1)).map F) := Lib.hid ⟨HR.out.1, fun x => by
                    rw [List.take_succ_eq_append_getElem (by omega), List.map_append, List.mem_append, ← HR.out.2]
                    have : L[i] = n0 := by rw [HN.out]; simp [List.getD_eq_getElem?_getD, show i < L.length by omega]
                    rw [this]
                    simp only [List.map_cons, List.map_nil, List.mem_singleton, ← HM.out]
                    exact ⟨.inl, fun h => h.elim id (fun e => by rw [e]; exact hmem)⟩⟩
                  have HPP : Hid (∀ x ∈ L.take (i + 1), 0 ≤ F x) := Lib.hid (fun x hx => by
                    rw [List.take_succ_eq_append_getElem (by omega)] at hx
                    rcases List.mem_append.1 hx with hx | hx
                    · exact HP.out x hx
                    · have : x = n0 := by rw [HN.out]; simpa [List.getD_eq_getElem?_getD, show i < L.length by omega] using hx
                      rw [this, ← HM.out]; exact h0)
                  clear hy hmem
                  go_wp2_with fail
                  go_roundw
                  case rel => exact ⟨i + 1, R, by omega, by go_num, by omega, HRR, HPP, HOUT5, HBE5⟩
                  case measure => simp [intOf]; omega
                · have hy1 : (y == m) = false := by simp [hy]
                  have HHI2 : Hid (∀ j, a ≤ j → j < R.length → m < R.getD j 0) := Lib.hid (fun j h1 h2 => by
                    have h3 := HHI.out a (Nat.le_refl _) hat
                    rw [← HY.out] at h3
                    have h4 : m < R.getD a 0 := by rw [← HY.out]; omega
                    rcases Nat.lt_or_ge a j with hl | hg
                    · exact Int.lt_trans h4 (strict_getD HR.out.1 hl h2)
                    · obtain rfl : j = a := by omega
                      exact h4)
                  clear hy HY
                  have hown1 := HOUT5.out
                  have hp3 : R.length + 1 ≤ maxLen := by unfold maxLen; omega
                  have hp4 : (R.length + 1) * 8 ≤ 140737488355328 := by omega
                  have hp5 : w3.heap.size ≤ w5.heap.size := HBE5.out.size
                  go_wp2_with (at_builtin; refine wpList_append_own _ rfl _ _ 28 rfl w3.heap.size 3 i0 (.int .i64 0) 1 8 Try.underlying28 hi hz0 hz1 hz2 rfl (by decide) _ _ _ rfl (hown1.alloc _) ⟨w5.heap.size, 0, none⟩ 1 1 [.int .i64 0] rfl rfl (one_new w5 _ _) (one_one _ rfl) hp3 hp4 (le_alloc hp5 _) ?_)
                  intro v' w6 hown' hgrow _
                  have HO6 : Hid (w6.ownsRow w3.heap.size 3 1 v' (R.length + 1) (ints (R.take R.length ++ 0 :: R.drop R.length))) := Lib.hid (by have := hown'; simpa [ints] using this)
                  have HB6 := Lib.hid ((HBE5.out.alloc (by have := HBE5.out.size; omega) (.cells #[.int .i64 0] 3)).grown hgrow (by have := HBE5.out.size; simp; omega) (fun i hi => (hown1.lt i hi).1))
                  clear hown' hgrow hown1 hp3 hp4 hp5 HOUT5 HBE5
                  obtain ⟨g2, c2, rfl, hg2, hlt2⟩ := HO6.out.form (by omega)
                  go_wp2_with fail
                  go_loopw [19] (fun kk wx => ∃ (k : Nat) (y : Int), a ≤ k ∧ k ≤ R.length ∧ kk = .int .i64 k ∧ g2 < wx.heap.size ∧ Hid (wx.ownsRow w3.heap.size 3 1 (.slice (some ⟨g2, 0, none⟩) (R.length + 1) c2) (R.length + 1) (ints (R.take k ++ y :: R.drop k))) ∧ Hid (Below w3.heap.size w3 wx)) (fun kk _ => (intOf kk).toNat)
                  case atStart => exact ⟨R.length, 0, by omega, by omega, by go_num, hlt2, HO6, HB6⟩
                  case round =>
                    obtain ⟨k, y, ka, kb, rfl, hltk, HOK, HBK⟩ := hrel
                    clear HO6 HB6 hlt2
                    by_cases hka : a < k
                    · obtain ⟨b, rfl⟩ : ∃ b, k = b + 1 := ⟨k - 1, by omega⟩
                      obtain ⟨z, hz⟩ : ∃ z, z = R.getD b 0 := ⟨_, rfl⟩
                      have q1 : (a : Int) < (b : Int) + 1 := by omega
                      have q2 : wr.cell? ⟨g2, b, none⟩ = some (.int .i64 z) := by
                        rw [HOK.out.cellAt b (by omega), getD_ints (by simp; omega), ins_getD R (b + 1) b y (by omega) (by omega), ← hz]
                      have q3 : wr.cell? ⟨g2, b + 1, none⟩ = some (.int .i64 y) := by
                        rw [HOK.out.cellAt (b + 1) (by omega), getD_ints (by simp; omega), ins_at R (b + 1) y (by omega)]
                      have q4 := HOK.out.frozenAt (b + 1)
                      have q5 : (b : Int) < (R.length : Int) + 1 := by omega
                      have q6 : (b : Int) + 1 < (R.length : Int) + 1 := by omega
                      have q7 : (0 : Int) ≤ (b : Int) := by omega
                      have q8 : (0 : Int) ≤ (b : Int) + 1 := by omega
                      have q9 : b < R.length := by omega
                      have hst := HOK.out.stored (b + 1) (.int .i64 z)
                      have HST : Hid ((wr.setCell ⟨g2, b + 1, none⟩ (.int .i64 z)).ownsRow w3.heap.size 3 1 (.slice (some ⟨g2, 0, none⟩) (R.length + 1) c2) (R.length + 1) (ints (R.take b ++ z :: R.drop b))) := Lib.hid (by
                        have := hst.1
                        rw [hz, ← ins_down R b y (by omega), ← hz]
                        simpa [ints, List.map_set] using this)
                      have HBS := Lib.hid (HBK.out.setCell (p := ⟨g2, b + 1, none⟩) hg2 (.int .i64 z))
                      clear hst hz HOK HBK
                      go_wp2_with fail
                      go_roundw
                      case rel => exact ⟨b, z, by omega, by omega, by go_num, by simpa using hltk, HST, HBS⟩
                      case measure => simp [intOf]
                    · obtain rfl : k = a := by omega
                      have q1 : ¬ (k : Int) < (k : Int) := by omega
                      have q3 : wr.cell? ⟨g2, k, none⟩ = some (.int .i64 y) := by
                        rw [HOK.out.cellAt k (by omega), getD_ints (by simp; omega), ins_at R k y (by omega)]
                      have q4 := HOK.out.frozenAt k
                      have q6 : (k : Int) < (R.length : Int) + 1 := by omega
                      have q7 : (0 : Int) ≤ (k : Int) := by omega
                      have hst := HOK.out.stored k (.int .i64 m)
                      have HST : Hid ((wr.setCell ⟨g2, k, none⟩ (.int .i64 m)).ownsRow w3.heap.size 3 1 (.slice (some ⟨g2, 0, none⟩) (R.length + 1) c2) (R.length + 1) (ints (R.take k ++ m :: R.drop k))) := Lib.hid (by
                        have := hst.1
                        rw [← ins_put R k y m (by omega)]
                        simpa [ints, List.map_set] using this)
                      have HBS := Lib.hid (HBK.out.setCell (p := ⟨g2, k, none⟩) hg2 (.int .i64 m))
                      have hpa := put_at HR.out.1 kb HLO.out (HHI2.out)
                      have hlen : (R.take k ++ m :: R.drop k).length = R.length + 1 := by simp; omega
                      obtain ⟨R', hR'⟩ : ∃ R', R' = R.take k ++ m :: R.drop k := ⟨_, rfl⟩
                      rw [← hR'] at HST hlen hpa
                      rw [← hlen] at HST
                      have HRR : Hid (R'.Pairwise (· < ·) ∧ ∀ x, x ∈ R' ↔ x ∈ (L.take (i + 1)).map F) := Lib.hid ⟨hpa.1, fun x => by
                        rw [hpa.2, HR.out.2, List.take_succ_eq_append_getElem (by omega), List.map_append, List.mem_append]
                        have : L[i] = n0 := by rw [HN.out]; simp [List.getD_eq_getElem?_getD, show i < L.length by omega]
                        rw [this]
                        simp [← HM.out, or_comm]⟩
                      have HPP : Hid (∀ x ∈ L.take (i + 1), 0 ≤ F x) := Lib.hid (fun x hx => by
                        rw [List.take_succ_eq_append_getElem (by omega)] at hx
                        rcases List.mem_append.1 hx with hx | hx
                        · exact HP.out x hx
                        · have : x = n0 := by rw [HN.out]; simpa [List.getD_eq_getElem?_getD, show i < L.length by omega] using hx
                          rw [this, ← HM.out]; exact h0)
                      clear hst HOK HBK hpa
                      go_wp2_with fail
                      go_roundw
                      case rel => exact ⟨i + 1, R', by omega, by go_num, by omega, HRR, HPP, by rw [hlen] at HST ⊢; exact HST, HBS⟩
                      case measure => simp [intOf]; omega
              · have q5 : ¬ (a : Int) < (R.length : Int) := by omega
                have HHI2 : Hid (∀ j, a ≤ j → j < R.length → m < R.getD j 0) := Lib.hid (fun j h1 h2 => by omega)
                have hown1 := HOUT5.out
                have hp3 : R.length + 1 ≤ maxLen := by unfold maxLen; omega
                have hp4 : (R.length + 1) * 8 ≤ 140737488355328 := by omega
                have hp5 : w3.heap.size ≤ w5.heap.size := HBE5.out.size
                go_wp2_with (at_builtin; refine wpList_append_own _ rfl _ _ 28 rfl w3.heap.size 3 i0 (.int .i64 0) 1 8 Try.underlying28 hi hz0 hz1 hz2 rfl (by decide) _ _ _ rfl (hown1.alloc _) ⟨w5.heap.size, 0, none⟩ 1 1 [.int .i64 0] rfl rfl (one_new w5 _ _) (one_one _ rfl) hp3 hp4 (le_alloc hp5 _) ?_)
                intro v' w6 hown' hgrow _
                have HO6 : Hid (w6.ownsRow w3.heap.size 3 1 v' (R.length + 1) (ints (R.take R.length ++ 0 :: R.drop R.length))) := Lib.hid (by have := hown'; simpa [ints] using this)
                have HB6 := Lib.hid ((HBE5.out.alloc (by have := HBE5.out.size; omega) (.cells #[.int .i64 0] 3)).grown hgrow (by have := HBE5.out.size; simp; omega) (fun i hi => (hown1.lt i hi).1))
                clear hown' hgrow hown1 hp3 hp4 hp5 HOUT5 HBE5
                obtain ⟨g2, c2, rfl, hg2, hlt2⟩ := HO6.out.form (by omega)
                go_wp2_with fail
                go_loopw [19] (fun kk wx => ∃ (k : Nat) (y : Int), a ≤ k ∧ k ≤ R.length ∧ kk = .int .i64 k ∧ g2 < wx.heap.size ∧ Hid (wx.ownsRow w3.heap.size 3 1 (.slice (some ⟨g2, 0, none⟩) (R.length + 1) c2) (R.length + 1) (ints (R.take k ++ y :: R.drop k))) ∧ Hid (Below w3.heap.size w3 wx)) (fun kk _ => (intOf kk).toNat)
                case atStart => exact ⟨R.length, 0, by omega, by omega, by go_num, hlt2, HO6, HB6⟩
                case round =>
                  obtain ⟨k, y, ka, kb, rfl, hltk, HOK, HBK⟩ := hrel
                  clear HO6 HB6 hlt2
                  by_cases hka : a < k
                  · omega
                  · obtain rfl : k = a := by omega
                    have q1 : ¬ (k : Int) < (k : Int) := by omega
                    have q3 : wr.cell? ⟨g2, k, none⟩ = some (.int .i64 y) := by
                      rw [HOK.out.cellAt k (by omega), getD_ints (by simp; omega), ins_at R k y (by omega)]
                    have q4 := HOK.out.frozenAt k
                    have q6 : (k : Int) < (R.length : Int) + 1 := by omega
                    have q7 : (0 : Int) ≤ (k : Int) := by omega
                    have hst := HOK.out.stored k (.int .i64 m)
                    have HST : Hid ((wr.setCell ⟨g2, k, none⟩ (.int .i64 m)).ownsRow w3.heap.size 3 1 (.slice (some ⟨g2, 0, none⟩) (R.length + 1) c2) (R.length + 1) (ints (R.take k ++ m :: R.drop k))) := Lib.hid (by
                      have := hst.1
                      rw [← ins_put R k y m (by omega)]
                      simpa [ints, List.map_set] using this)
                    have HBS := Lib.hid (HBK.out.setCell (p := ⟨g2, k, none⟩) hg2 (.int .i64 m))
                    have hpa := put_at HR.out.1 kb HLO.out (HHI2.out)
                    have hlen : (R.take k ++ m :: R.drop k).length = R.length + 1 := by simp; omega
                    obtain ⟨R', hR'⟩ : ∃ R', R' = R.take k ++ m :: R.drop k := ⟨_, rfl⟩
                    rw [← hR'] at HST hlen hpa
                    rw [← hlen] at HST
                    have HRR : Hid (R'.Pairwise (· < ·) ∧ ∀ x, x ∈ R' ↔ x ∈ (L.take (i + 1)).map F) := Lib.hid ⟨hpa.1, fun x => by
                      rw [hpa.2, HR.out.2, List.take_succ_eq_append_getElem (by omega), List.map_append, List.mem_append]
                      have : L[i] = n0 := by rw [HN.out]; simp [List.getD_eq_getElem?_getD, show i < L.length by omega]
                      rw [this]
                      simp [← HM.out, or_comm]⟩
                    have HPP : Hid (∀ x ∈ L.take (i + 1), 0 ≤ F x) := Lib.hid (fun x hx => by
                      rw [List.take_succ_eq_append_getElem (by omega)] at hx
                      rcases List.mem_append.1 hx with hx | hx
                      · exact HP.out x hx
                      · have : x = n0 := by rw [HN.out]; simpa [List.getD_eq_getElem?_getD, show i < L.length by omega] using hx
                        rw [this, ← HM.out]; exact h0)
                    clear hst HOK HBK hpa
                    go_wp2_with fail
                    go_roundw
                    case rel => exact ⟨i + 1, R', by omega, by go_num, by omega, HRR, HPP, by rw [hlen] at HST ⊢; exact HST, HBS⟩
                    case measure => simp [intOf]; omega
        · obtain rfl : i = K + 1 := by omega
          have i4 : ¬ ((K : Int) + 1 < (K : Int) + 1) := by omega
          obtain ⟨_, _, e', _, hS, hfar⟩ := own_sat HOUT.out
          cases e'
          have hP : ∀ x ∈ L, 0 ≤ F x := fun x hx => HP.out x (by rw [List.take_of_length_le (by omega)]; exact hx)
          have hR2 : ∀ x, x ∈ R ↔ x ∈ L.map F := fun x => by have := HR.out.2 x; rw [List.take_of_length_le (by omega)] at this; exact this
          have HA : Hid (SchAns g F tq R true) := Lib.hid (sch_all HS.out (by omega) (by rw [← HL.out]; exact hP) HR.out.1 (by rw [← HL.out]; exact hR2))
          have HSO := Lib.hid hS
          have HFA := Lib.hid hfar
          have HBF := Lib.hid (below_mono HC.out HBE.out (Nat.le_refl _))
          have hws := HC.out.size
          clear hP hR2 hS hfar
          go_wp2_with fail
          go_ret2
          exact ⟨R, true, _, _, rfl, HA.out, by omega, HSO.out, HBF.out, fun a e => Nat.le_trans hws (HFA.out a e)⟩
end Go.Proofs.Ytknahehmkjaelab
