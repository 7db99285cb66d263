/- What the Go function Schedule of package date answers: the days, walked. Conditions: those written at each theorem. -/
import Derived.Test.YtknahehmkjaelabScA
import Derived.Deep.CutBlock
namespace Go.Proofs.Ytknahehmkjaelab
open Go.RowKit Go.Sort
set_option linter.unusedSimpArgs false
set_option linter.unusedVariables false

/-- Days that are told as a slice of the call's own, or none. -/
def TellsDays (P : List Int → Bool → Prop) (w : World) (e : Ending) (w' : World) : Prop :=
  ∃ R ok ao cap, e = .returned (.tuple #[.slice ao R.length cap, .bool ok]) ∧ P R ok ∧ R.length ≤ 400 ∧ SAt w'.heap.size ao (ints R) w' ∧ Below w.heap.size w w' ∧ (∀ a, ao = some a → w.heap.size ≤ a.block)
theorem getD_dl (g : Nat → Int) (K i : Nat) (h : i < K) : (dl g K).getD i 0 = g i := by simp [dl, List.getD_eq_getElem?_getD, h]

set_option maxRecDepth 100000 in
set_option maxHeartbeats 2000000 in
theorem sched_go (fr tq mo rule : Int) (ao : Option Addr) (cap : Nat) (hs : List Int) (g : Nat → Int) (F : Int → Int) (f0 : 0 ≤ fr) (t1 : tq ≤ 2932896) (ft : fr < tq) (m0 : 1 ≤ mo) (m1 : mo ≤ 1200) (hg0 : g 0 = fr)
    (hx : hs.length ≤ 1000) (G1 : Hid (∀ k : Nat, 1 ≤ k → k ≤ 400 → ∀ W, Calls Try.prog 10 #[.int .i64 fr, .int .i64 (k * mo)] W fun e w' => e = dayRet (g k) ∧ W = w')) (GL : Hid (∀ k, -1 ≤ g k))
    (FA : Hid (∀ ao' cap' n W, SAt W.heap.size ao' (ints (srt hs)) W → Calls Try.prog 32 #[.int .i64 n, .int .i64 rule, .slice ao' hs.length cap'] W fun e w' => e = dayRet (F n) ∧ Below W.heap.size W w')) (FL : Hid (∀ n, -1 ≤ F n))
    (w : World) (h : Hid (SAt w.heap.size ao (ints hs) w)) :
    Calls Try.prog 20 #[.int .i64 fr, .int .i64 tq, .int .i64 mo, .int .i64 rule, .slice ao hs.length cap] w (TellsDays (fun R ok => SchAns g F tq R ok ∧ ∃ K, Stop g tq K) w) := by
  obtain ⟨i0, hi, hz0, hz1, hz2⟩ := info_parts intInfo
  have K0 := Lib.hid (Below.refl w.heap.size w)
  have u1 : ¬ tq ≤ fr := by omega
  have u2 : ¬ mo < 1 := by omega
  have u3 : ¬ 1200 < mo := by omega
  go_enter Try.func20, Try.ntmps20
  go_upto_block 0 with (first | (go_at_call 35; refine (none_in fr f0 (by omega) _).mono ?_; rintro e w' ⟨rfl, rfl⟩) | (go_at_call 35; refine (none_in tq (by omega) t1 _).mono ?_; rintro e w' ⟨rfl, rfl⟩))
  go_cut [12] (fun v wx => ∃ K, Hid (Stop g tq K) ∧ Hid (wx.ownsRow w.heap.size 3 1 v K (ints (dl g K))) ∧ Hid (Below w.heap.size w wx))
  case first =>
    go_wp2_with fail
    go_loopw [12, 13] (fun v kk wr => ∃ K : Nat, 1 ≤ K ∧ K ≤ 401 ∧ kk = .int .i64 K ∧ Hid (∀ i, 1 ≤ i → i < K → 0 ≤ g i ∧ g i < tq) ∧ Hid (wr.ownsRow w.heap.size 3 1 v K (ints (dl g K))) ∧ Hid (Below w.heap.size w wr)) (fun _ kk _ => 402 - (intOf kk).toNat)
    case atStart => exact ⟨1, by omega, by omega, rfl, Lib.hid (fun i _ _ => by omega), Lib.hid (by rw [dl_one, hg0]; exact World.ownsRow_lit w #[.int .i64 fr] 1 (Nat.le_refl _) (by decide) rfl), Lib.hid (K0.out.alloc (Nat.le_refl _) _)⟩
    case round =>
      obtain ⟨K, k1, k2, rfl, HG, HOWN, HBE⟩ := hrel
      obtain ⟨gb, cp, rfl, hgb, hlt⟩ := HOWN.out.form (by omega)
      clear K0 FA FL h
      by_cases hk : K ≤ 400
      · have t400 : (K : Int) ≤ 400 := by omega
        obtain ⟨P, hP⟩ : ∃ P : Int, P = (K : Int) * mo := ⟨_, rfl⟩
        have hP0 : 0 ≤ P := by rw [hP]; exact Int.mul_nonneg (by omega) (by omega)
        have hP1 : P ≤ 480000 := by rw [hP]; exact Int.le_trans (Int.mul_le_mul t400 m1 (by omega) (by omega)) (by decide)
        have x1 : IntKind.i64.wrap ((K : Int) * mo) = P := by rw [IntKind.wrap_i64, ← hP]; omega
        have C1 : Hid (∀ W, Calls Try.prog 10 #[.int .i64 fr, .int .i64 P] W fun e w' => e = dayRet (g K) ∧ W = w') := Lib.hid (by rw [hP]; exact G1.out K k1 hk)
        have gk := GL.out K
        have HN := Lib.hid (rfl : g K = g K)
        obtain ⟨n, hn⟩ : ∃ n, n = g K := ⟨_, rfl⟩
        rw [← hn] at C1 gk
        have HNN := Lib.hid hn
        clear hn hP hP0 hP1 G1 HN
        by_cases hneg : 0 ≤ n
        · have C1' : Hid (∀ W, Calls Try.prog 10 #[.int .i64 fr, .int .i64 P] W fun e w' => e = .returned (.tuple #[.int .i64 n, .bool true]) ∧ W = w') := Lib.hid (by rw [← dayRet_yes hneg]; exact C1.out)
          clear C1
          by_cases hto : tq ≤ n
          · go_wp2_with fail
            with_reducible refine (C1'.out _).mono ?_
            rintro e w1 ⟨rfl, rfl⟩
            go_wp2_with fail
            go_meet
            exact ⟨K, Lib.hid ⟨k1, k2, HG.out, .inr (.inr (by rw [← HNN.out]; exact hto))⟩, HOWN, HBE⟩
          · have hto' : n < tq := by omega
            go_wp2_with fail
            with_reducible refine (C1'.out _).mono ?_
            rintro e w1 ⟨rfl, rfl⟩
            have hown1 := HOWN.out
            have hp3 : K + 1 ≤ maxLen := by unfold maxLen; omega
            have hp4 : (K + 1) * 8 ≤ 140737488355328 := by omega
            have hp5 : w.heap.size ≤ wr.heap.size := HBE.out.size
            go_wp2_with (at_builtin; refine wpList_append_own _ rfl _ _ 28 rfl w.heap.size 3 i0 (.int .i64 0) 1 8 Try.underlying28 hi hz0 hz1 hz2 rfl (by decide) _ _ _ rfl (hown1.alloc _) ⟨wr.heap.size, 0, none⟩ 1 1 [.int .i64 n] rfl rfl (one_new wr _ _) (one_one _ rfl) hp3 hp4 (le_alloc hp5 _) ?_)
            intro v' w3 hown' hgrow _
            have HO := Lib.hid hown'
            have HC := Lib.hid ((HBE.out.alloc (by have := HBE.out.size; omega) (.cells #[.int .i64 n] 3)).grown hgrow (by have := HBE.out.size; simp; omega) (fun i hi => (hown1.lt i hi).1))
            clear hown' hgrow hown1 hp3 hp4 hp5
            go_wp2_with fail
            go_roundw
            case rel => exact ⟨K + 1, by omega, by omega, by go_num, Lib.hid (fun i h1 h2 => by
              rcases Nat.lt_or_ge i K with hl | hg
              · exact HG.out i h1 hl
              · obtain rfl : i = K := by omega
                rw [← HNN.out]; exact ⟨hneg, hto'⟩), Lib.hid (by have := HO.out; rw [dl_succ, ← HNN.out]; simpa [ints] using this), HC⟩
            case measure => simp [intOf]; omega
        · obtain rfl : n = -1 := by omega
          have C1' : Hid (∀ W, Calls Try.prog 10 #[.int .i64 fr, .int .i64 P] W fun e w' => e = .returned (.tuple #[.int .i64 0, .bool false]) ∧ W = w') := Lib.hid (by rw [← dayRet_no]; exact C1.out)
          clear C1
          go_wp2_with fail
          with_reducible refine (C1'.out _).mono ?_
          rintro e w1 ⟨rfl, rfl⟩
          go_wp2_with fail
          go_meet
          exact ⟨K, Lib.hid ⟨k1, k2, HG.out, .inr (.inl (by rw [← HNN.out]; decide))⟩, HOWN, HBE⟩
      · have t400 : ¬ (K : Int) ≤ 400 := by omega
        go_wp2_with fail
        go_meet
        exact ⟨K, Lib.hid ⟨k1, k2, HG.out, .inl (by omega)⟩, HOWN, HBE⟩
  case rest =>
    obtain ⟨K, HS, HOWN, HBE⟩ := hcut
    have k1 := HS.out.low
    have k2 := HS.out.high
    obtain ⟨gb, cp, rfl, hgb, hlt⟩ := HOWN.out.form (by omega)
    clear K0 G1 GL
    have hown1 := HOWN.out
    have hp3 : K + 1 ≤ maxLen := by unfold maxLen; omega
    have hp4 : (K + 1) * 8 ≤ 140737488355328 := by omega
    have hp5 : w.heap.size ≤ wc.heap.size := HBE.out.size
    go_wp2_with (at_builtin; refine wpList_append_own _ rfl _ _ 28 rfl w.heap.size 3 i0 (.int .i64 0) 1 8 Try.underlying28 hi hz0 hz1 hz2 rfl (by decide) _ _ _ rfl (hown1.alloc _) ⟨wc.heap.size, 0, none⟩ 1 1 [.int .i64 tq] rfl rfl (one_new wc _ _) (one_one _ rfl) hp3 hp4 (le_alloc hp5 _) ?_)
    intro v' w3 hown' hgrow _
    have HO : Hid (w3.ownsRow w.heap.size 3 1 v' (K + 1) (ints (dl g K ++ [tq]))) := Lib.hid (by have := hown'; simpa [ints] using this)
    have HC := Lib.hid ((HBE.out.alloc (by have := HBE.out.size; omega) (.cells #[.int .i64 tq] 3)).grown hgrow (by have := HBE.out.size; simp; omega) (fun i hi => (hown1.lt i hi).1))
    clear hown' hgrow hown1 hp3 hp4 hp5 HOWN HBE hgb hlt
    obtain ⟨gb, cp, rfl, hgb, hlt⟩ := HO.out.form (by omega)
    obtain ⟨L, hL⟩ : ∃ L, L = dl g K ++ [tq] := ⟨_, rfl⟩
    have hLl : L.length = K + 1 := by rw [hL]; simp [dl_len]
    rw [← hL] at HO
    have HL := Lib.hid hL
    clear hL
    by_cases h400 : 400 ≤ K
    · have t4 : (400 : Int) < (K : Int) + 1 := by omega
      go_wp2_with fail
      go_ret2
      exact ⟨[], false, none, 0, rfl, ⟨sch_much HS.out h400, K, HS.out⟩, by simp, SAt.nil _ _ _, HC.out, fun a e => by cases e⟩
    · have t4 : ¬ (400 : Int) < (K : Int) + 1 := by omega
      go_wp2_with fail
      with_reducible refine (sorted_new ao cap hs _ hx ((h.out.under HC.out).mono HC.out.size)).mono ?_
      rintro e w4 ⟨fo, fc, rfl, hS, hB, hfar⟩
      have HO4 := Lib.hid (own_under HO.out hB (fun g e => by cases e; exact hlt))
      have HB4 := Lib.hid (below_mono HC.out hB (Nat.le_refl _))
      have HFar : Hid (∀ a, fo = some a → 0 < hs.length → gb < a.block) := Lib.hid (fun a e h0 => Nat.lt_of_lt_of_le hlt (hfar a e h0))
      have HSS := Lib.hid hS
      have hlt4 : gb < w4.heap.size := Nat.lt_of_lt_of_le hlt hB.size
      have HHS := h
      clear hS hB hfar hlt HO HC h
      go_wp2_with fail
      go_loopw [77] (fun ii wr => ∃ i : Nat, i ≤ K + 1 ∧ ii = .int .i64 i ∧ gb < wr.heap.size ∧ Hid (∀ x ∈ L.take i, 0 ≤ F x) ∧ Hid (wr.ownsRow w.heap.size 3 1 (.slice (some ⟨gb, 0, none⟩) (K + 1) cp) (K + 1) (ints ((L.take i).map F ++ L.drop i))) ∧ Hid (SAt wr.heap.size fo (ints (srt hs)) wr) ∧ Hid (Below w.heap.size w wr)) (fun ii _ => K + 2 - (intOf ii).toNat)
      case atStart => exact ⟨0, by omega, rfl, hlt4, Lib.hid (fun x hx => by simp at hx), Lib.hid (by simpa using HO4.out), HSS, HB4⟩
      case round =>
        obtain ⟨i, hi1, rfl, hltw, HP, HOW, HSA, HBE⟩ := hrel
        clear HO4 HB4 HSS hlt4
        by_cases hlast : i < K + 1
        · obtain ⟨n, hn⟩ : ∃ n, n = L.getD i 0 := ⟨_, rfl⟩
          have x1 : wr.cell? ⟨gb, i, none⟩ = some (.int .i64 n) := by
            rw [HOW.out.cellAt i (by omega), getD_ints (by rw [mixed_len _ _ _ (by omega)]; omega), mixed_getD _ _ _ (by omega), ← hn]
          have i1 : (i : Int) < (K : Int) + 1 := by omega
          have i2 : (0 : Int) ≤ (i : Int) := by omega
          have i3 : i < K + 1 := hlast
          have HN := Lib.hid hn
          clear hn
          go_wp2_with fail
          with_reducible refine (FA.out fo fc n _ HSA.out).mono ?_
          rintro e w5 ⟨he, hB5⟩
          have HOW5 := Lib.hid (own_under HOW.out hB5 (fun g e => by cases e; exact hltw))
          have HSA5 := Lib.hid ((HSA.out.under hB5).mono hB5.size)
          have HBE5 := Lib.hid (below_mono HBE.out hB5 (Nat.le_refl _))
          have hlt5 : gb < w5.heap.size := Nat.lt_of_lt_of_le hltw hB5.size
          have HX1 := Lib.hid ((hB5.cell (p := ⟨gb, i, none⟩) hltw).trans x1)
          clear hB5 HOW HSA HBE hltw x1
          by_cases h0 : 0 ≤ F n
          · rw [dayRet_yes h0] at he
            subst he
            obtain ⟨m, hm⟩ : ∃ m, m = F n := ⟨_, rfl⟩
            have HM := Lib.hid hm
            rw [← hm] at h0 ⊢
            have hst := HOW5.out.stored i (.int .i64 m)
            have HST : Hid ((w5.setCell ⟨gb, i, none⟩ (.int .i64 m)).ownsRow w.heap.size 3 1 (.slice (some ⟨gb, 0, none⟩) (K + 1) cp) (K + 1) (ints ((L.take (i + 1)).map F ++ L.drop (i + 1)))) := Lib.hid (by
              have := hst.1
              rw [← mixed_set L F i (by omega), ← HN.out, ← hm]
              simpa [ints, List.map_set] using this)
            have HSA6 := Lib.hid (HSA5.out.set_other (p := ⟨gb, i, none⟩) (fun a e hp => by
              have := HFar.out a e (by simpa [ints, srt_length] using hp)
              show a.block ≠ gb
              omega) (.int .i64 m))
            have HBE6 := Lib.hid (HBE5.out.setCell (p := ⟨gb, i, none⟩) hgb (.int .i64 m))
            have x2 := HX1.out
            have x3 := HOW5.out.frozenAt i
            clear hm hst HOW5 HSA5 HBE5 HX1
            go_wp2_with fail
            go_roundw
            case rel => exact ⟨i + 1, by omega, by go_num, by simpa using hlt5, Lib.hid (fun x hx => by
              rw [List.take_succ_eq_append_getElem (by omega)] at hx
              rcases List.mem_append.1 hx with hx | hx
              · exact HP.out x hx
              · have : x = n := by rw [HN.out]; simpa [List.getD_eq_getElem?_getD, show i < L.length by omega] using hx
                rw [this, ← HM.out]; exact h0), HST, Lib.hid (by simpa using HSA6.out), HBE6⟩
            case measure => simp [intOf]; omega
          · have h1 : F n = -1 := by have := FL.out n; omega
            rw [h1, dayRet_no] at he
            subst he
            go_wp2_with fail
            go_ret2
            refine ⟨[], false, none, 0, rfl, ⟨sch_none HS.out (x := n) ?_ (by omega), K, HS.out⟩, by simp, SAt.nil _ _ _, HBE5.out, fun a e => by cases e⟩
            rw [← HL.out, HN.out]
            have : i < L.length := by omega
            simp [List.getD_eq_getElem?_getD, this]
        · obtain rfl : i = K + 1 := by omega
          have i1 : ¬ (((K + 1 : Nat)) : Int) < (K : Int) + 1 := by omega
          have i4 : ¬ ((K : Int) + 1 < (K : Int) + 1) := by omega
          obtain ⟨zs, hz⟩ : ∃ zs, zs = L.map F := ⟨_, rfl⟩
          have hzl : zs.length = K + 1 := by rw [hz, List.length_map, hLl]
          have HOW' : wr.ownsRow w.heap.size 3 1 (.slice (some ⟨gb, 0, none⟩) (K + 1) cp) (K + 1) (zs.map (Value.int .i64)) := by
            have := HOW.out
            rw [List.take_of_length_le (by omega), List.drop_of_length_le (by omega), List.append_nil, ← hz] at this
            exact this
          obtain ⟨g', c', e', _, _, hcp, _, _, HH⟩ := Lib.holds_of_ownsRow HOW' (by simp)
          cases e'
          have hP : ∀ x ∈ L, 0 ≤ F x := fun x hx => HP.out x (by rw [List.take_of_length_le (by omega)]; exact hx)
          have S1 : Hid (Calls Try.prog 41 #[.slice (some ⟨gb, 0, none⟩) (K + 1) cp] wr fun e w' => e = .returned (.tuple #[]) ∧ Holds (Value.int .i64) w' gb 0 (srt zs).toArray ∧ gb < w'.heap.size ∧ (∀ B w0, B ≤ gb → Below B w0 wr → B ≤ wr.heap.size → Below B w0 w')) := Lib.hid (by
            have := sort_own gb cp zs wr HH hltw (by omega)
            rw [hzl] at this
            exact this)
          have C1 : Hid (∀ W, Holds (Value.int .i64) W gb 0 (srt zs).toArray → gb < W.heap.size → Calls Try.prog 42 #[.slice (some ⟨gb, 0, none⟩) (K + 1) cp] W fun e w' => e = .returned (.slice (some ⟨gb, 0, none⟩) (Lib.compact (srt zs)).length cp) ∧ SAt w'.heap.size (some ⟨gb, 0, none⟩) (ints (Lib.compact (srt zs))) w' ∧ (∀ B w0, B ≤ gb → Below B w0 W → Below B w0 w')) := Lib.hid (fun W h1 h2 => by
            have := compact_own gb cp (srt zs) W h1 h2 (by rw [srt_length]; omega) (by rw [srt_length]; omega)
            rw [srt_length, hzl] at this
            exact this)
          have hco := compact_ordered (srt zs) (sort_pairs zs)
          have hcl := compact_length (srt zs)
          rw [srt_length, hzl] at hcl
          have HA : Hid (SchAns g F tq (Lib.compact (srt zs)) true) := Lib.hid (sch_all HS.out (by omega) (by rw [← HL.out]; exact hP) hco.1 (fun x => by
            rw [hco.2, ← HL.out, ← hz]
            exact (List.mergeSort_perm zs _).mem_iff))
          obtain ⟨R, hR⟩ : ∃ R, R = Lib.compact (srt zs) := ⟨_, rfl⟩
          rw [← hR] at C1 HA hcl
          have HWS := Lib.hid HBE.out.size
          clear hR hco hP HH HOW' hz HOW HSA HP
          go_wp2_with fail
          with_reducible refine S1.out.mono ?_
          rintro e w6 ⟨rfl, hH6, hlt6, hB6⟩
          have HB6 := Lib.hid (hB6 _ _ hgb HBE.out HWS.out)
          have C2 := Lib.hid (C1.out w6 hH6 hlt6)
          clear hH6 hlt6 hB6 C1 S1 HBE
          go_wp2_with fail
          with_reducible refine C2.out.mono ?_
          rintro e w7 ⟨rfl, hS7, hB7⟩
          have HB7 := Lib.hid (hB7 _ _ hgb HB6.out)
          have HS7 := Lib.hid hS7
          clear hS7 hB7 C2 HB6
          go_wp2_with fail
          go_ret2
          exact ⟨R, true, _, _, rfl, ⟨HA.out, K, HS.out⟩, by omega, HS7.out, HB7.out, fun a e => by cases e; exact hgb⟩
end Go.Proofs.Ytknahehmkjaelab
