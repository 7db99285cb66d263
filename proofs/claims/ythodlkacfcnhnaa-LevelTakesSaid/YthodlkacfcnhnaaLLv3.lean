/- The law LevelTakes, walked. Conditions: those written at each theorem. -/
import Derived.Test.YthodlkacfcnhnaaLvV
namespace Go.Proofs.Ythodlkacfcnhnaa
open Go.RowKit Go.Sort
set_option linter.unusedVariables false
set_option linter.unusedSimpArgs false
set_option maxRecDepth 100000 in
set_option maxHeartbeats 8000000 in
theorem levelTakes_go {B : Nat} {lg nx sq : Int} {ao : Option Addr} {c : Nat} {l : List Fl} {w : World} (h : FlAt B ao l w) (hB : B ≤ w.heap.size) (hc : l.length ≤ c) (hm : c ≤ maxLen) (lv : Int) :
    Calls Try.prog 5 #[verV lg nx sq ao l.length c, .int .i64 lv] w fun e w' => e = .returned (.bool true) ∧ Below w.heap.size w w' := by
  have CA := Lib.hid awake_any
  have CG : Hid (∀ W, Below w.heap.size w W → Calls Try.prog 12 #[verV lg nx sq ao l.length c] W fun e w' => Gt l e ∧ Below W.heap.size W w') := Lib.hid fun W hW => great_any (h.under (hW.mono hB)) (by have := hW.size; omega) hc hm
  have CV : Hid (l.length ≤ 30 → ∀ W, Below w.heap.size w W → Calls Try.prog 13 #[verV lg nx sq ao l.length c] W fun e w' => GotV W lg nx sq l e w' ∧ Below W.heap.size W w') := Lib.hid fun hl W hW => version_any (h.under (hW.mono hB)) (by have := hW.size; omega) hc (by omega)
  have CT : Hid (l.length ≤ 30 → Srt l → ∀ W va vc, l.length ≤ vc → FlAt W.heap.size va l W → Calls Try.prog 20 #[verV lg nx sq va l.length vc, .int .i64 lv] W fun e w' => TaskIs W (takeT l lv).1 (takeT l lv).2.1 (takeT l lv).2.2.1 (takeT l lv).2.2.2.1 (takeT l lv).2.2.2.2 e w' ∧ Below W.heap.size W w') := Lib.hid fun hl hs W va vc h1 h2 => take_any h2 (Nat.le_refl _) h1 (by omega) hs lv
  obtain ⟨⟨tl, tf, ti, tm, tok⟩, ht⟩ : ∃ t, t = takeT l lv := ⟨_, rfl⟩
  rw [← ht] at CT
  dsimp only at CT
  have CK : Hid (l.length ≤ 30 → ∀ W, Below w.heap.size w W → ∀ fa ia fc ic, tf.length ≤ fc → ti.length ≤ ic → VAt W.heap.size fa (tf.map (Value.int .i64)) W → VAt W.heap.size ia (ti.map (Value.int .i64)) W → Calls Try.prog 21 #[verV lg nx sq ao l.length c, .int .i64 lv, .agg #[.int .i64 tl, .slice fa tf.length fc, .slice ia ti.length ic, .bool tm], .bool tok] W fun e w' => e = .returned (.bool true) ∧ Below W.heap.size W w') := Lib.hid fun hl W hW fa ia fc ic h1 h2 h3 h4 => takes_any (h.under (hW.mono hB)) (by have := hW.size; omega) hc hl lv tl tf ti tm tok ht h3 h4 h1 h2 (Nat.le_refl _) (Nat.le_refl _)
  obtain ⟨n, hn⟩ : ∃ n, n = l.length := ⟨_, rfl⟩
  have HN := Lib.hid hn
  obtain ⟨kf, hkf⟩ : ∃ k, k = tf.length := ⟨_, rfl⟩
  obtain ⟨ki, hki⟩ : ∃ k, k = ti.length := ⟨_, rfl⟩
  have HKF := Lib.hid (And.intro hkf hki)
  rw [← hn] at CG CV CT CK ⊢
  rw [← hkf, ← hki] at CK
  have HBX := Lib.hid (heap_alloc_new w (.cells #[.int .i64 lg, .int .i64 nx, .int .i64 sq, .slice ao n c] 30))
  have HB0 := Lib.hid ((Below.refl w.heap.size w).alloc (Nat.le_refl _) (.cells #[.int .i64 lg, .int .i64 nx, .int .i64 sq, .slice ao n c] 30))
  clear hn h hm hc ht hkf hki
  obtain ⟨z, hz⟩ : ∃ z, z = w.heap.size := ⟨_, rfl⟩
  go_enter Try.func5, Try.ntmps5
  go_upto_region 1 with fail
  rw [← hz]
  refine wp_letter (fun W => Below w.heap.size w W ∧ W.heap[z]? = some (.cells #[.int .i64 lg, .int .i64 nx, .int .i64 sq, .slice ao n c] 30 (0, 0))) ⟨HB0.out, by rw [hz]; exact HBX.out⟩ ?_
  clear HB0 HBX hz
  rintro w0 ⟨hw0, hbx⟩
  have HB0 := Lib.hid hw0
  have KZ : Hid (∀ W, Below w0.heap.size w0 W → W.heap[z]? = some (.cells #[.int .i64 lg, .int .i64 nx, .int .i64 sq, .slice ao n c] 30 (0, 0))) := Lib.hid fun W hW => (hW.block _ (lt_of_heap hbx)).trans hbx
  obtain ⟨v0, v1, v2, v3⟩ := four_cells hbx
  clear hw0 hbx
  go_upto_region 3 with (first | (go_at_call 12; (with_reducible refine (CG.out _ HB0.out).mono ?_); rintro e w1 ⟨⟨r, rfl, hr⟩, hb⟩; have HR := Lib.hid hr; have HB1 := Lib.hid hb; clear hr hb v0 v1 v2 v3) | (go_at_call 11; (with_reducible refine (CA.out _).mono ?_); rintro e w2 ⟨rfl, hb⟩; have HB2 := Lib.hid (below_mono (below_mono HB0.out HB1.out (Nat.le_refl _)) hb (Nat.le_refl _)); clear hb))
  all_goals try (go_ret; exact ⟨rfl, HB2.out⟩)
  obtain ⟨hl30, hl100, hsr, hsz⟩ := HR.out (by first | assumption | rfl | simpa using ‹¬ _ = true›)
  have hn30 : n ≤ 30 := by rw [HN.out]; exact hl30
  have CV1 := Lib.hid (CV.out hn30)
  have CT1 := Lib.hid (CT.out hn30 hsr)
  have CK1 := Lib.hid (CK.out hn30)
  clear CG CV CT CK HR hl30 hl100 hsr hsz
  have HBT := Lib.hid (below_mono HB0.out HB1.out (Nat.le_refl _))
  obtain ⟨v0, v1, v2, v3⟩ := four_cells (KZ.out w1 HB1.out)
  go_upto_region 4 with (first | (go_at_call 13; (with_reducible refine (CV1.out _ HBT.out).mono ?_); rintro e w2 ⟨⟨va, vc, rfl, hvc, hvf⟩, hb⟩; have HV := Lib.hid (And.intro (show n ≤ vc by rw [HN.out]; exact hvc) hvf); have HB2 := Lib.hid (below_mono HB1.out hb (Nat.le_refl _)); rw [← HN.out]; clear hb hvc hvf v0 v1 v2 v3 CV1) | (go_at_call 20; (with_reducible refine (CT1.out _ _ _ HV.out.1 HV.out.2).mono ?_); rintro e w3 ⟨⟨fa, fc, ia, ic, rfl, q1, q2, q3, q4, _, _⟩, hb⟩; have HQ := Lib.hid (And.intro q1 (And.intro q2 (And.intro q3 q4))); have HB3 := Lib.hid (below_mono HB2.out hb (Nat.le_refl _)); rw [← HKF.out.1, ← HKF.out.2]; clear q1 q2 q3 q4 hb CT1))
  have HBA := Lib.hid ((Below.refl w3.heap.size w3).alloc (Nat.le_refl _) (.cells #[.int .i64 tl, .slice fa kf fc, .slice ia ki ic, .bool tm] 47))
  have HXA := Lib.hid (heap_alloc_new w3 (.cells #[.int .i64 tl, .slice fa kf fc, .slice ia ki ic, .bool tm] 47))
  refine wp_letter (fun W => Below w3.heap.size w3 W ∧ W.heap[w3.heap.size]? = some (.cells #[.int .i64 tl, .slice fa kf fc, .slice ia ki ic, .bool tm] 47 (0, 0))) ⟨HBA.out, HXA.out⟩ ?_
  clear HBA HXA
  rintro w4 ⟨hb4, hx4⟩
  have HB4 := Lib.hid (below_mono HB3.out hb4 (Nat.le_refl _))
  have HBW4 := Lib.hid (below_mono HB0.out HB4.out (Nat.le_refl _))
  have HT4 := Lib.hid (And.intro ((HQ.out.2.2.1.under hb4).more hb4.size) ((HQ.out.2.2.2.under hb4).more hb4.size))
  obtain ⟨t0, t1, t2, t3⟩ := four_cells hx4
  obtain ⟨v0, v1, v2, v3⟩ := four_cells (KZ.out w4 HB4.out)
  have CK2 : Hid (Calls Try.prog 21 #[verV lg nx sq ao n c, .int .i64 lv, .agg #[.int .i64 tl, .slice fa kf fc, .slice ia ki ic, .bool tm], .bool tok] w4 fun e w' => e = .returned (.bool true) ∧ Below w4.heap.size w4 w') := Lib.hid (CK1.out w4 HBW4.out fa ia fc ic (by rw [HKF.out.1]; exact HQ.out.1) (by rw [HKF.out.2]; exact HQ.out.2.1) HT4.out.1 HT4.out.2)
  clear hb4 hx4 CK1 HT4 HQ HB3 HB2 HB1 HV
  go_wp2_with (first | (go_at_call 21; (with_reducible refine CK2.out.mono ?_); rintro e w5 ⟨rfl, hb⟩; have HB5 := Lib.hid (below_mono HBW4.out hb (Nat.le_refl _)); clear hb) | (go_at_call 11; (with_reducible refine (CA.out _).mono ?_); rintro e w6 ⟨rfl, hb⟩; have HB6 := Lib.hid (below_mono HB5.out hb (Nat.le_refl _)); clear hb))
  go_ret
  exact ⟨rfl, HB6.out⟩
end Go.Proofs.Ythodlkacfcnhnaa
