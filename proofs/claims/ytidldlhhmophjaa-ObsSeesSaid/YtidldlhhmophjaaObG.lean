/- Layer 22: the law ObsSees, walked. Conditions: those written at each theorem. -/
import Derived.Test.YtidldlhhmophjaaObF
import Derived.Test.YtidldlhhmophjaaObD
namespace Go.Proofs.Ytidldlhhmophjaa
open Go.RowKit Go.PlainAid Go.Sort
set_option linter.unusedVariables false
set_option linter.unusedSimpArgs false
set_option maxRecDepth 100000 in
set_option maxHeartbeats 8000000 in
theorem obsSees_walk {R : Nat → Prop} {ao : Option Addr} {l : List Fx} {cap : Nat} (day : Int) (nm : ByteArray) (w : World) (h : FxA R ao l w) (hR : ∀ b, R b → b < w.heap.size) :
    Calls Try.prog 8 #[.agg #[.int .i64 day, .slice ao l.length cap], .string nm] w fun e w' => e = .returned (.bool true) ∧ Below w.heap.size w w' := by
  obtain ⟨m, hm⟩ : ∃ m, m = l.length := ⟨_, rfl⟩
  rw [← hm]
  have GA := Lib.hid (two_made (.int .i64 day) (.slice ao m cap) 58 w)
  have HX : Hid (∀ W, Below w.heap.size w W → FxA R ao l W) := Lib.hid fun W hW => h.stay (fun _ h => h) fun b hb => hW.block b (hR b hb)
  have HM := Lib.hid hm
  have HAB : Hid (∀ b, R b → b < w.heap.size) := Lib.hid hR
  have CA : Hid (∀ W, Calls Try.prog 34 #[] W fun e w' => e = .returned (.bool true) ∧ Below W.heap.size W w') := Lib.hid awake_any
  clear h hm hR
  go_enter Try.func8, Try.ntmps8
  go_upto_region 1 with fail
  obtain ⟨z, hz⟩ : ∃ z, z = w.heap.size := ⟨_, rfl⟩
  obtain ⟨W, hW⟩ : ∃ X, w.alloc (.cells #[.int .i64 day, .slice ao m cap] 58) = X := ⟨_, rfl⟩
  obtain ⟨g1, b1, _⟩ := GA.out W hW
  rw [hW, ← hz]
  rw [← hz] at b1
  have HG := Lib.hid g1
  have HB := Lib.hid b1
  have HZ := Lib.hid hz
  clear hW g1 b1 GA hz
  obtain ⟨e0, e1⟩ := duo HB.out
  by_cases h2 : m ≤ 200
  · have h2' : ¬ (200 : Int) < (m : Int) := by omega
    obtain ⟨sv, hsv⟩ : ∃ v, v = snV (seenF day nm l) := ⟨_, rfl⟩
    obtain ⟨sb, hsb⟩ : ∃ v, v = snB (seenF day nm l) := ⟨_, rfl⟩
    have CE : Hid (Calls Try.prog 36 #[.agg #[.int .i64 day, .slice ao m cap]] W fun e w' => (∃ a c, e = .returned (.agg #[.int .i64 day, .slice a m c]) ∧ FxA (fun b => W.heap.size ≤ b ∧ b < w'.heap.size) a l w') ∧ Below W.heap.size W w') := Lib.hid (by
      have := env_any (cap := cap) day W (HX.out W HG.out) (by rw [← HM.out]; exact h2) (fun b hb => Nat.lt_of_lt_of_le (HAB.out b hb) HG.out.size)
      rw [← HM.out] at this
      exact this)
    have CS : Hid (∀ (a : Option Addr) (c : Nat) (V : World), FxA (fun b => W.heap.size ≤ b ∧ b < V.heap.size) a l V → Calls Try.prog 35 #[.agg #[.int .i64 day, .slice a m c], .string nm] V fun e w' => e = .returned (.tuple #[.int .i64 sv, .bool sb]) ∧ Below V.heap.size V w') := Lib.hid (fun a c V hV => by
      have := seen_any (cap := c) day nm V hV (by rw [← HM.out]; exact h2) (fun b hb => hb.2)
      rw [← HM.out, ← hsv, ← hsb] at this
      exact this)
    have CR : Hid (∀ (V : World), Below w.heap.size w V → Calls Try.prog 37 #[.agg #[.int .i64 day, .slice ao m cap], .string nm] V fun e w' => e = .returned (.tuple #[.int .i64 sv, .bool sb]) ∧ Below V.heap.size V w') := Lib.hid (fun V hV => by
      have := rseen_any (cap := cap) day nm V (HX.out V hV) (by rw [← HM.out]; exact h2) (fun b hb => Nat.lt_of_lt_of_le (HAB.out b hb) hV.size)
      rw [← HM.out, ← hsv, ← hsb] at this
      exact this)
    clear hsv hsb
    go_upto_region 4 with (first | (go_at_call 36; (with_reducible refine CE.out.mono ?_); rintro e w4 ⟨⟨a, c, rfl, ha⟩, hb⟩; have HA4 := Lib.hid ha; have HB4 := Lib.hid hb; clear ha hb) | (go_at_call 35; (with_reducible refine (CS.out _ _ _ HA4.out).mono ?_); rintro e w5 ⟨rfl, hb⟩; have HB5 := Lib.hid hb; clear hb))
    have HG5 : Hid (Below w.heap.size w w5) := Lib.hid (below_mono (below_mono HG.out HB4.out (Nat.le_refl _)) HB5.out (Nat.le_refl _))
    have HX5 : Hid (w5.heap[z]? = some (.cells #[.int .i64 day, .slice ao m cap] 58 (0, 0))) := Lib.hid ((HB5.out.block z (Nat.lt_of_lt_of_le (lt_of_heap HB.out) HB4.out.size)).trans ((HB4.out.block z (lt_of_heap HB.out)).trans HB.out))
    obtain ⟨f0, f1⟩ := duo HX5.out
    clear CE CS e0 e1
    go_upto_region 5 with (go_at_call 37; (with_reducible refine (CR.out _ HG5.out).mono ?_); rintro e w6 ⟨rfl, hb⟩; have HB6 := Lib.hid hb; clear hb)
    have hss : (sv == sv) = true := by simp
    have hbb : (sb == sb) = true := by simp
    go_wp2_with (go_at_call 34; (with_reducible refine (CA.out _).mono ?_); rintro e w7 ⟨rfl, hb⟩; have HB7 := Lib.hid hb; clear hb)
    exact bodyPost_ret (v := .bool true) (by simp [results, Try.results8, go_sem]) rfl ⟨rfl, below_mono (below_mono HG5.out HB6.out (Nat.le_refl _)) HB7.out (Nat.le_refl _)⟩
  · have h2' : (200 : Int) < (m : Int) := by omega
    go_wp2_with (go_at_call 34; (with_reducible refine (CA.out _).mono ?_); rintro e w4 ⟨rfl, hb⟩; have HB4 := Lib.hid hb; clear hb)
    exact bodyPost_ret (v := .bool true) (by simp [results, Try.results8, go_sem]) rfl ⟨rfl, below_mono HG.out HB4.out (Nat.le_refl _)⟩
end Go.Proofs.Ytidldlhhmophjaa
