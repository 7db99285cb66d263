/- The law DateSchedules walked: for every input the call returns true. No conditions. -/
import Derived.Test.YtknahehmkjaelabScR
import Derived.Test.YtknahehmkjaelabLMonths
import Derived.Deep.QuietTactic
import Derived.BigQuiet
namespace Go.Proofs.Ytknahehmkjaelab
open Go.RowKit Go.Sort
set_option linter.unusedSimpArgs false
set_option linter.unusedVariables false

/-- The same day so many months on, for the program and the document. -/
structure MonAns (n k R : Int) : Prop where
  low : -1 ≤ R
  p : ∀ w : World, Calls Try.prog 10 #[.int .i64 n, .int .i64 k] w fun e w' => e = dayRet R ∧ w = w'
  r : ∀ w : World, Calls Try.prog 12 #[.int .i64 n, .int .i64 k] w fun e w' => e = .returned (.int .i64 R) ∧ Below w.heap.size w w'
theorem months_both (n k : Int) (h0 : 0 ≤ n) (h1 : n ≤ 2932896) : ∃ R, MonAns n k R := by
  obtain ⟨y, m, d, hi⟩ := Cal.Is.exists_ (n := n) (by omega) (by omega)
  have hi' := hi
  obtain ⟨y1, y2, m1, m2, d1, d2, _⟩ := hi'
  by_cases h2 : k < -200000 ∨ 200000 < k
  · exact ⟨-1, by omega, fun w => by rw [dayRet_no]; exact months_far n k y m d hi (by omega) w, rmonths_far n k y m d hi h2⟩
  · obtain ⟨z, hz⟩ : ∃ z, (12 * y + m - 1 + k) / 12 = z := ⟨_, rfl⟩
    obtain ⟨o, ho⟩ : ∃ o, (12 * y + m - 1 + k) % 12 + 1 = o := ⟨_, rfl⟩
    obtain ⟨D, hD⟩ : ∃ D, (if Cal.dim z o < d then Cal.dim z o else d) = D := ⟨_, rfl⟩
    have d28 := Cal.dim_28 z o (by omega) (by omega)
    have hD1 : 1 ≤ D ∧ D ≤ Cal.dim z o := by rw [← hD]; split <;> omega
    by_cases hr : z < 1970 ∨ 9999 < z
    · refine ⟨-1, by omega, fun w => ?_, rmonths_mid n k y m d z o D (-1) hi (by omega) (by omega) hz ho hD (rof_no z o D (by omega))⟩
      rw [dayRet_no]
      by_cases h3 : k < -96360 ∨ 96360 < k
      · exact months_far n k y m d hi h3 w
      · exact months_out n k y m d hi (by omega) (by omega) (by rw [hz]; exact hr) w
    · have ha : Cal.Is (Cal.dayNum z o D) z o D := Cal.is_dayNum (by omega) (by omega) (by omega) (by omega) (by omega) (by omega)
      refine ⟨Cal.dayNum z o D, by have := ha.range.1; omega, fun w => ?_, rmonths_mid n k y m d z o D _ hi (by omega) (by omega) hz ho hD (rof_yes _ z o D ha)⟩
      rw [dayRet_yes ha.range.1]
      exact months_yes n k y m d _ hi (by omega) (by omega) (by rw [hz, ho, hD]; exact ha) w

/-- The working day by a rule, as a function. -/
theorem adjF (hs : List Int) (rule : Int) : ∃ F : Int → Int, ∀ n, -1 ≤ F n ∧ ∀ r, AdjIs hs rule n r → r = F n :=
  Classical.axiomOfChoice (r := fun n x => -1 ≤ x ∧ ∀ r, AdjIs hs rule n r → r = x) fun n => by
    by_cases hx : ∃ r, AdjIs hs rule n r
    · obtain ⟨r, hr⟩ := hx
      exact ⟨r, hr.low, fun r' h' => h'.one hr⟩
    · exact ⟨-1, by omega, fun r hr => absurd ⟨r, hr⟩ hx⟩
/-- The days so many months apart, as a function. -/
theorem monF (n mo : Int) (h0 : 0 ≤ n) (h1 : n ≤ 2932896) : ∃ g : Nat → Int, ∀ k : Nat, -1 ≤ g k ∧ (k = 0 → g k = n) ∧ (1 ≤ k → MonAns n (k * mo) (g k)) :=
  Classical.axiomOfChoice (r := fun (k : Nat) x => -1 ≤ x ∧ (k = 0 → x = n) ∧ (1 ≤ k → MonAns n (k * mo) x)) fun k => by
    by_cases hk : k = 0
    · exact ⟨n, by omega, fun _ => rfl, fun h => by omega⟩
    · obtain ⟨R, hR⟩ := months_both n (k * mo) h0 h1
      exact ⟨R, hR.low, fun h => absurd h hk, fun _ => hR⟩

/-- Two slices of the same numbers. -/
theorem same_ints {B B' : Nat} (ao bo : Option Addr) (cap cap' : Nat) (xs : List Int) (hn : xs.length ≤ 1000) (w : World) (hl : SAt B ao (ints xs) w) (hl2 : SAt B' bo (ints xs) w) :
    Calls Try.prog 22 #[.slice ao xs.length cap, .slice bo xs.length cap'] w fun e w' => e = .returned (.bool true) ∧ ∃ m, w' = w.drewN m := by
  obtain ⟨n, hnn⟩ : ∃ n : Nat, n = xs.length := ⟨_, rfl⟩
  have HS := Lib.hid hl
  have HS2 := Lib.hid hl2
  have HNN := Lib.hid hnn
  rw [← hnn] at hn ⊢
  clear hl hl2 hnn
  go_enter Try.func22, Try.ntmps22
  go_wp2_with fail
  go_loopw [5] (fun i wr => ∃ k m : Nat, k ≤ n ∧ i = .int .i64 k ∧ wr = w.drewN m) (fun i _ => n - (intOf i).toNat)
  case atStart => exact ⟨0, 0, by omega, rfl, rfl⟩
  case round =>
    obtain ⟨k, m, hk, rfl, rfl⟩ := hrel
    by_cases hlt : k < n
    · have hkx : k < xs.length := by rw [← HNN.out]; exact hlt
      have hls : (ints xs).length = xs.length := by simp [ints]
      obtain ⟨a, rfl⟩ := HS.out.1 (by omega)
      obtain ⟨a', rfl⟩ := HS2.out.1 (by omega)
      have hc : w.cell? (a.add k) = some (.int .i64 xs[k]) := (HS.out.2 a rfl (by omega)).2 k _ (by simp [ints, hkx])
      have hc' : w.cell? (a'.add k) = some (.int .i64 xs[k]) := (HS2.out.2 a' rfl (by omega)).2 k _ (by simp [ints, hkx])
      have hki : (k : Int) < (n : Int) := by omega
      generalize xs[k] = x at *
      clear hls
      go_wp2_with fail
      go_quiet (fail)
      go_wp2_with fail
      go_roundw
      case rel => exact ⟨k + 1, _, by omega, by go_num, rfl⟩
      case measure => simp [intOf]; omega
    · obtain rfl : k = n := by omega
      go_wp2_with fail
      go_ret
      exact ⟨rfl, m, rfl⟩
/-- What both schedules tell: P of the program's, Q of the document's. -/
structure Both (P Q : List Int → Bool → Prop) (fr tq mo rule : Int) (ao : Option Addr) (cap : Nat) (hs : List Int) : Prop where
  one : ∀ R ok R' ok', P R ok → Q R' ok' → R = R' ∧ ok = ok'
  p : ∀ w : World, SAt w.heap.size ao (ints hs) w → Calls Try.prog 20 #[.int .i64 fr, .int .i64 tq, .int .i64 mo, .int .i64 rule, .slice ao hs.length cap] w (TellsDays P w)
  r : ∀ w : World, SAt w.heap.size ao (ints hs) w → Calls Try.prog 21 #[.int .i64 fr, .int .i64 tq, .int .i64 mo, .int .i64 rule, .slice ao hs.length cap] w (TellsDays Q w)
/-- No days. -/
def NoDays (R : List Int) (ok : Bool) : Prop := R = [] ∧ ok = false
theorem noDays_tells (w : World) : TellsDays NoDays w (.returned (.tuple #[.slice none 0 0, .bool false])) w :=
  ⟨[], false, none, 0, rfl, ⟨rfl, rfl⟩, by simp, SAt.nil _ _ _, Below.refl _ _, fun a e => by cases e⟩
set_option maxHeartbeats 1000000 in
theorem schedule_no (fr tq mo rule : Int) (ao : Option Addr) (cap len : Nat) (h : fr < 0 ∨ 2932896 < tq ∨ tq ≤ fr ∨ mo < 1 ∨ 1200 < mo) (w : World) :
    Calls Try.prog 20 #[.int .i64 fr, .int .i64 tq, .int .i64 mo, .int .i64 rule, .slice ao len cap] w (TellsDays NoDays w) := by
  have HT := Lib.hid (noDays_tells w)
  by_cases a : fr < 0 ∨ 2932896 < fr
  · have NF := Lib.hid (none_out fr a)
    clear h a
    go_enter Try.func20, Try.ntmps20
    go_wp2_with fail
    refine (NF.out _).mono ?_
    rintro e w1 ⟨rfl, rfl⟩
    go_wp2_with fail
    go_ret2
    exact HT.out
  have NF := Lib.hid (none_in fr (by omega) (by omega))
  by_cases b : tq < 0 ∨ 2932896 < tq
  · have NT := Lib.hid (none_out tq b)
    clear h a b
    go_enter Try.func20, Try.ntmps20
    go_wp2_with fail
    refine (NF.out _).mono ?_
    rintro e w1 ⟨rfl, rfl⟩
    go_wp2_with fail
    refine (NT.out _).mono ?_
    rintro e w1 ⟨rfl, rfl⟩
    go_wp2_with fail
    go_ret2
    exact HT.out
  have NT := Lib.hid (none_in tq (by omega) (by omega))
  have hh : tq ≤ fr ∨ ¬ tq ≤ fr ∧ mo < 1 ∨ ¬ tq ≤ fr ∧ ¬ mo < 1 ∧ 1200 < mo := by omega
  clear h a b
  rcases hh with hh | ⟨h1, h2⟩ | ⟨h1, h2, h3⟩
  all_goals
    go_enter Try.func20, Try.ntmps20
    go_wp2_with fail
    refine (NF.out _).mono ?_
    rintro e w1 ⟨rfl, rfl⟩
    go_wp2_with fail
    refine (NT.out _).mono ?_
    rintro e w1 ⟨rfl, rfl⟩
    go_wp2_with fail
    go_ret2
    exact HT.out
set_option maxHeartbeats 1000000 in
theorem rschedule_no (fr tq mo rule : Int) (ao : Option Addr) (cap len : Nat) (h : fr < 0 ∨ 2932896 < tq ∨ tq ≤ fr ∨ mo < 1 ∨ 1200 < mo) (w : World) :
    Calls Try.prog 21 #[.int .i64 fr, .int .i64 tq, .int .i64 mo, .int .i64 rule, .slice ao len cap] w (TellsDays NoDays w) := by
  have HT := Lib.hid (noDays_tells w)
  have hh : fr < 0 ∨ ¬ fr < 0 ∧ 2932896 < tq ∨ ¬ fr < 0 ∧ ¬ 2932896 < tq ∧ tq ≤ fr ∨ ¬ fr < 0 ∧ ¬ 2932896 < tq ∧ ¬ tq ≤ fr ∧ mo < 1 ∨ ¬ fr < 0 ∧ ¬ 2932896 < tq ∧ ¬ tq ≤ fr ∧ ¬ mo < 1 ∧ 1200 < mo := by omega
  clear h
  rcases hh with hh | ⟨h1, h2⟩ | ⟨h1, h2, h3⟩ | ⟨h1, h2, h3, h4⟩ | ⟨h1, h2, h3, h4, h5⟩
  all_goals
    go_enter Try.func21, Try.ntmps21
    go_wp2_with fail
    go_ret2
    exact HT.out
theorem sched_both (fr tq mo rule : Int) (ao : Option Addr) (cap : Nat) (hs : List Int) (hx : hs.length ≤ 1000) : ∃ P Q, Both P Q fr tq mo rule ao cap hs := by
  by_cases hout : fr < 0 ∨ 2932896 < tq ∨ tq ≤ fr ∨ mo < 1 ∨ 1200 < mo
  · exact ⟨NoDays, NoDays, fun R ok R' ok' a b => ⟨a.1.trans b.1.symm, a.2.trans b.2.symm⟩, fun w _ => schedule_no fr tq mo rule ao cap _ hout w, fun w _ => rschedule_no fr tq mo rule ao cap _ hout w⟩
  · obtain ⟨g, hg⟩ := monF fr mo (by omega) (by omega)
    obtain ⟨F, hF⟩ := adjF hs rule
    refine ⟨fun R ok => SchAns g F tq R ok ∧ ∃ K, Stop g tq K, fun R ok => SchAns g F tq R ok, fun R ok R' ok' ⟨a, K, hK⟩ b => a.one hK b, fun w hw => ?_, fun w hw => ?_⟩
    · exact sched_go fr tq mo rule ao cap hs g F (by omega) (by omega) (by omega) (by omega) (by omega) ((hg 0).2.1 rfl) hx
        (Lib.hid fun k k1 k4 => ((hg k).2.2 k1).p) (Lib.hid fun k => (hg k).1)
        (Lib.hid fun ao' cap' n W h' => by
          have := adjust_any ao' cap' (srt hs) n rule W (by rw [srt_length]; exact hx) (sort_pairs hs) h'
          rw [srt_length] at this
          exact this.mono fun e w' ⟨r, hr, he, hb⟩ => ⟨by rw [he, (hF n).2 r (AdjIs.sorted.1 hr)], hb⟩)
        (Lib.hid fun n => (hF n).1) w (Lib.hid hw)
    · exact rsched_go fr tq mo rule ao cap hs g F (by omega) (by omega) (by omega) (by omega) (by omega) ((hg 0).2.1 rfl) hx
        (Lib.hid fun k k1 k4 => ((hg k).2.2 k1).r) (Lib.hid fun k => (hg k).1)
        (Lib.hid fun n W h' => (rAdjust_any ao cap hs n rule W hx h').mono fun e w' ⟨r, hr, he, hb⟩ => ⟨by rw [he, (hF n).2 r hr], hb⟩)
        (Lib.hid fun n => (hF n).1) w (Lib.hid hw)
end Go.Proofs.Ytknahehmkjaelab
