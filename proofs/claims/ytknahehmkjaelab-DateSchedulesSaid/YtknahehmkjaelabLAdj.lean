/- The laws DateAdjusts and DateAdjusted walked: for every input the call returns true. No conditions. -/
import Derived.Test.YtknahehmkjaelabDateW
import Derived.Test.YtknahehmkjaelabAdr
namespace Go.Proofs.Ytknahehmkjaelab
open Go.RowKit
set_option linter.unusedSimpArgs false
set_option linter.unusedVariables false

theorem smP_self {n : Int} (h0 : 0 ≤ n) (h1 : n ≤ 2932896) : smP n n := by
  obtain ⟨y, m, d, hy⟩ := Cal.Is.exists_ (n := n) h0 h1
  exact ⟨y, m, d, d, hy, hy⟩
/-- The rule tells one day at most. -/
theorem AdjIs.one {hs : List Int} {rule n r r' : Int} (h : AdjIs hs rule n r) (h' : AdjIs hs rule n r') : r = r' := by
  by_cases ho : n < 0 ∨ 2932896 < n
  · rw [h.1 ho, h'.1 ho]
  · have a := h.2 (by omega) (by omega)
    have b := h'.2 (by omega) (by omega)
    by_cases r0 : rule = 0
    · rw [a.1 r0, b.1 r0]
    · by_cases r1 : rule = 1
      · rw [a.2.1 r1, b.2.1 r1]
      · by_cases r3 : rule = 3
        · rw [a.2.2.1 r3, b.2.2.1 r3]
        · by_cases r2 : rule = 2
          · by_cases hc : 0 ≤ fw hs n ∧ smP n (fw hs n)
            · rw [(a.2.2.2.1 r2).1 hc.1 hc.2, (b.2.2.2.1 r2).1 hc.1 hc.2]
            · rw [(a.2.2.2.1 r2).2 hc, (b.2.2.2.1 r2).2 hc]
          · rw [a.2.2.2.2 (by omega), b.2.2.2.2 (by omega)]
theorem AdjIs.low {hs : List Int} {rule n r : Int} (h : AdjIs hs rule n r) : -1 ≤ r := by
  by_cases ho : n < 0 ∨ 2932896 < n
  · rw [h.1 ho]; omega
  · have a := h.2 (by omega) (by omega)
    have hf := fw_low hs (n := n) (by omega)
    have hb := bw_low hs n
    by_cases r0 : rule = 0
    · rw [a.1 r0]; omega
    · by_cases r1 : rule = 1
      · rw [a.2.1 r1]; exact hf
      · by_cases r3 : rule = 3
        · rw [a.2.2.1 r3]; exact hb
        · by_cases r2 : rule = 2
          · by_cases hc : 0 ≤ fw hs n ∧ smP n (fw hs n)
            · rw [(a.2.2.2.1 r2).1 hc.1 hc.2]; exact hf
            · rw [(a.2.2.2.1 r2).2 hc]; exact hb
          · rw [a.2.2.2.2 (by omega)]; omega
theorem AdjIs.good {hs : List Int} {rule n r : Int} (h : AdjIs hs rule n r) (h0 : 0 ≤ n) (h1 : n ≤ 2932896) (hr : 1 ≤ rule ∧ rule ≤ 3) (hr0 : 0 ≤ r) :
    wk hs r = true ∧ (rule = 1 → n ≤ r) ∧ (rule = 3 → r ≤ n) ∧ AdjIs hs rule r r := by
  have a := h.2 h0 h1
  have key : wk hs r = true := by
    by_cases r1 : rule = 1
    · rw [a.2.1 r1] at hr0 ⊢; exact (fw_spec hr0).1
    · by_cases r3 : rule = 3
      · rw [a.2.2.1 r3] at hr0 ⊢; exact (bw_spec hr0).1
      · by_cases hc : 0 ≤ fw hs n ∧ smP n (fw hs n)
        · rw [(a.2.2.2.1 (by omega)).1 hc.1 hc.2]; exact (fw_spec hc.1).1
        · rw [(a.2.2.2.1 (by omega)).2 hc] at hr0 ⊢; exact (bw_spec hr0).1
  have hg := wk_range key
  have e1 : fw hs r = r := fw_yes hg.2 key
  have e2 : bw hs r = r := bw_yes hg.1 key
  refine ⟨key, fun r1 => ?_, fun r3 => ?_, fun ho => by omega, fun _ _ => ⟨fun _ => by omega, fun _ => e1.symm, fun _ => e2.symm, fun _ => ⟨fun _ _ => e1.symm, fun _ => e2.symm⟩, fun _ => by omega⟩⟩
  · have e := a.2.1 r1
    rw [e] at hr0 ⊢
    exact (fw_spec hr0).2
  · have e := a.2.2.1 r3
    rw [e] at hr0 ⊢
    exact (bw_spec hr0).2

/-- The day of the document's answer. -/
def DayIs (P : Int → Prop) (w : World) (e : Ending) (w' : World) : Prop := ∃ r, P r ∧ e = .returned (.int .i64 r) ∧ Below w.heap.size w w'
set_option maxHeartbeats 1000000 in
theorem rAdjust_any (ao : Option Addr) (cap : Nat) (hs : List Int) (n rule : Int) (w : World) (hx : hs.length ≤ 1000) (h : SAt w.heap.size ao (ints hs) w) :
    Calls Try.prog 15 #[.int .i64 n, .int .i64 rule, .slice ao hs.length cap] w (DayIs (AdjIs hs rule n) w) := by
  by_cases n0 : n < 0
  · have HD : Hid (AdjIs hs rule n (-1)) := Lib.hid ⟨fun _ => rfl, fun h0 h1 => by omega⟩
    clear h
    go_enter Try.func15, Try.ntmps15
    go_wp2_with fail
    go_ret
    exact ⟨-1, HD.out, rfl, Below.refl _ _⟩
  by_cases n1 : 2932896 < n
  · have HD : Hid (AdjIs hs rule n (-1)) := Lib.hid ⟨fun _ => rfl, fun h0 h1 => by omega⟩
    clear h
    go_enter Try.func15, Try.ntmps15
    go_wp2_with fail
    go_ret
    exact ⟨-1, HD.out, rfl, Below.refl _ _⟩
  have h0 : 0 ≤ n := by omega
  have h1 : n ≤ 2932896 := by omega
  by_cases r0 : rule < 0
  · have HD : Hid (AdjIs hs rule n (-1)) := Lib.hid ⟨fun _ => rfl, fun _ _ => ⟨fun h => by omega, fun h => by omega, fun h => by omega, fun h => by omega, fun _ => rfl⟩⟩
    clear h
    go_enter Try.func15, Try.ntmps15
    go_wp2_with fail
    go_ret
    exact ⟨-1, HD.out, rfl, Below.refl _ _⟩
  by_cases r3 : 3 < rule
  · have HD : Hid (AdjIs hs rule n (-1)) := Lib.hid ⟨fun _ => rfl, fun _ _ => ⟨fun h => by omega, fun h => by omega, fun h => by omega, fun h => by omega, fun _ => rfl⟩⟩
    clear h
    go_enter Try.func15, Try.ntmps15
    go_wp2_with fail
    go_ret
    exact ⟨-1, HD.out, rfl, Below.refl _ _⟩
  by_cases rz : rule = 0
  · subst rz
    have HD : Hid (AdjIs hs 0 n n) := Lib.hid ⟨fun _ => by omega, fun _ _ => ⟨fun _ => rfl, fun h => by omega, fun h => by omega, fun h => by omega, fun h => by omega⟩⟩
    clear h
    go_enter Try.func15, Try.ntmps15
    go_wp2_with fail
    go_ret
    exact ⟨n, HD.out, rfl, Below.refl _ _⟩
  cases hw : wk hs n with
  | true =>
    have e1 : fw hs n = n := fw_yes h1 hw
    have e2 : bw hs n = n := bw_yes h0 hw
    have HD : Hid (AdjIs hs rule n n) := Lib.hid ⟨fun _ => by omega, fun _ _ => ⟨fun _ => rfl, fun _ => e1.symm, fun _ => e2.symm, fun _ => ⟨fun _ _ => e1.symm, fun _ => e2.symm⟩, fun _ => by omega⟩⟩
    have HW := Lib.hid hw
    have H := Lib.hid h
    have rz' : (rule == 0) = false := by rw [beq_eq_false_iff_ne]; exact rz
    clear e1 e2 hw h rz
    go_enter Try.func15, Try.ntmps15
    go_wp2_with (go_at_call 17; refine (rworking_b ao cap hs n true HW.out _ hx H.out).mono ?_; rintro e w' ⟨rfl, rfl⟩)
    go_ret
    exact ⟨n, HD.out, rfl, Below.refl _ _⟩
  | false =>
    have hE := ends_of hs n h0 h1
    have hb := bw_low hs n
    have hf := fw_low hs (n := n) h0
    by_cases f0 : 0 ≤ fw hs n
    · rw [if_pos f0] at hE
      have fa := (fw_spec f0).2
      have fb := fw_high hs n
      obtain ⟨y, m, d, hi⟩ := Cal.Is.exists_ (n := n) h0 h1
      obtain ⟨z, k, e, hj⟩ := Cal.Is.exists_ (n := fw hs n) f0 fb
      obtain ⟨g, hg⟩ : ∃ g, (((dayS z k e).extract 0 7).toList == ((dayS y m d).extract 0 7).toList) = g := ⟨_, rfl⟩
      have hsm : g = true ↔ smP n (fw hs n) := by
        have hi' := hi
        have hj' := hj
        obtain ⟨y1, y2, m1, m2, _⟩ := hi'
        obtain ⟨z1, z2, k1, k2, _⟩ := hj'
        constructor
        · intro h'
          rw [h', beq_iff_eq, dayS_seven, dayS_seven] at hg
          obtain ⟨rfl, rfl⟩ := monS_inj (by omega) (by omega) (by omega) (by omega) (toList_inj hg)
          exact ⟨_, _, _, _, hi, hj⟩
        · rintro ⟨y', m', d', e', h3, h4⟩
          obtain ⟨rfl, rfl, rfl⟩ := h3.unique hi
          obtain ⟨rfl, rfl, rfl⟩ := h4.unique hj
          rw [← hg, beq_iff_eq, dayS_seven, dayS_seven]
      have hr2 : rule = 2 → AdjIs hs rule n (if g = true then fw hs n else bw hs n) := by
        intro r2
        refine ⟨fun _ => by omega, fun _ _ => ⟨fun h => by omega, fun h => by omega, fun h => by omega, fun _ => ⟨fun _ hs' => ?_, fun hn => ?_⟩, fun h => by omega⟩⟩
        · rw [if_pos (hsm.2 hs')]
        · rw [if_neg (fun hg' => hn ⟨f0, hsm.1 hg'⟩)]
      have hr1 : rule = 1 → AdjIs hs rule n (fw hs n) := fun r1 => ⟨fun _ => by omega, fun _ _ => ⟨fun h => by omega, fun _ => rfl, fun h => by omega, fun h => by omega, fun h => by omega⟩⟩
      have hr3 : rule = 3 → AdjIs hs rule n (bw hs n) := fun r1 => ⟨fun _ => by omega, fun _ _ => ⟨fun h => by omega, fun h => by omega, fun _ => rfl, fun h => by omega, fun h => by omega⟩⟩
      by_cases b0 : 0 ≤ bw hs n
      · have bb := (bw_spec b0).2
        rcases (by omega : rule = 1 ∨ rule = 2 ∨ rule = 3) with rfl | rfl | rfl
        · exact (radj_1fl ao cap hs n h0 h1 _ fa fb _ b0 bb w hx h (Nat.le_refl _) hw hE).mono fun _ _ ⟨a, b⟩ => ⟨_, hr1 rfl, a, b⟩
        · exact (radj_2fl ao cap hs n h0 h1 _ fa fb _ b0 bb g y m d z k e hi hj hg w hx h (Nat.le_refl _) hw hE).mono fun _ _ ⟨a, b⟩ => ⟨_, hr2 rfl, a, b⟩
        · exact (radj_3fl ao cap hs n h0 h1 _ fa fb _ b0 bb w hx h (Nat.le_refl _) hw hE).mono fun _ _ ⟨a, b⟩ => ⟨_, hr3 rfl, a, b⟩
      · have bm : bw hs n = -1 := by omega
        rw [bm] at hE hr2 hr3
        rcases (by omega : rule = 1 ∨ rule = 2 ∨ rule = 3) with rfl | rfl | rfl
        · exact (radj_1fn ao cap hs n h0 h1 _ fa fb w hx h (Nat.le_refl _) hw hE).mono fun _ _ ⟨a, b⟩ => ⟨_, hr1 rfl, a, b⟩
        · exact (radj_2fn ao cap hs n h0 h1 _ fa fb g y m d z k e hi hj hg w hx h (Nat.le_refl _) hw hE).mono fun _ _ ⟨a, b⟩ => ⟨_, hr2 rfl, a, b⟩
        · exact (radj_3fn ao cap hs n h0 h1 _ fa fb w hx h (Nat.le_refl _) hw hE).mono fun _ _ ⟨a, b⟩ => ⟨_, hr3 rfl, a, b⟩
    · rw [if_neg f0] at hE
      have fm : fw hs n = -1 := by omega
      have hr2 : rule = 2 → AdjIs hs rule n (bw hs n) := fun r2 => ⟨fun _ => by omega, fun _ _ => ⟨fun h => by omega, fun h => by omega, fun h => by omega, fun _ => ⟨fun h _ => by omega, fun _ => rfl⟩, fun h => by omega⟩⟩
      have hr1 : rule = 1 → AdjIs hs rule n (-1) := fun r1 => ⟨fun _ => by omega, fun _ _ => ⟨fun h => by omega, fun _ => fm.symm, fun h => by omega, fun h => by omega, fun h => by omega⟩⟩
      have hr3 : rule = 3 → AdjIs hs rule n (bw hs n) := fun r1 => ⟨fun _ => by omega, fun _ _ => ⟨fun h => by omega, fun h => by omega, fun _ => rfl, fun h => by omega, fun h => by omega⟩⟩
      by_cases b0 : 0 ≤ bw hs n
      · have bb := (bw_spec b0).2
        rcases (by omega : rule = 1 ∨ rule = 2 ∨ rule = 3) with rfl | rfl | rfl
        · exact (radj_1nl ao cap hs n h0 h1 _ b0 bb w hx h (Nat.le_refl _) hw hE).mono fun _ _ ⟨a, b⟩ => ⟨_, hr1 rfl, a, b⟩
        · exact (radj_2nl ao cap hs n h0 h1 _ b0 bb w hx h (Nat.le_refl _) hw hE).mono fun _ _ ⟨a, b⟩ => ⟨_, hr2 rfl, a, b⟩
        · exact (radj_3nl ao cap hs n h0 h1 _ b0 bb w hx h (Nat.le_refl _) hw hE).mono fun _ _ ⟨a, b⟩ => ⟨_, hr3 rfl, a, b⟩
      · have bm : bw hs n = -1 := by omega
        rw [bm] at hE hr2 hr3
        rcases (by omega : rule = 1 ∨ rule = 2 ∨ rule = 3) with rfl | rfl | rfl
        · exact (radj_1nn ao cap hs n h0 h1 w hx h (Nat.le_refl _) hw hE).mono fun _ _ ⟨a, b⟩ => ⟨_, hr1 rfl, a, b⟩
        · exact (radj_2nn ao cap hs n h0 h1 w hx h (Nat.le_refl _) hw hE).mono fun _ _ ⟨a, b⟩ => ⟨_, hr2 rfl, a, b⟩
        · exact (radj_3nn ao cap hs n h0 h1 w hx h (Nat.le_refl _) hw hE).mono fun _ _ ⟨a, b⟩ => ⟨_, hr3 rfl, a, b⟩

theorem told_any (r a : Int) (ok : Bool) (h : -1 ≤ r) (hq : dayRet r = .returned (.tuple #[.int .i64 a, .bool ok])) (w : World) :
    Calls Try.prog 11 #[.int .i64 a, .bool ok, .int .i64 r] w fun e w' => e = .returned (.bool true) ∧ w = w' := by
  unfold dayRet at hq
  injection hq with hq
  injection hq with hq
  simp only [Array.mk.injEq, List.cons.injEq, Value.int.injEq, Value.bool.injEq, true_and, and_true] at hq
  obtain ⟨h1, h2⟩ := hq
  subst h1 h2
  by_cases h0 : 0 ≤ r
  · have e : decide (0 ≤ r) = true := by simpa using h0
    rw [if_pos h0, e]
    exact told_yes r h0 w
  · obtain rfl : r = -1 := by omega
    exact told_no w

set_option maxRecDepth 100000 in
set_option maxHeartbeats 1000000 in
theorem dateAdjusts_walk (n rule : Int) (ao : Option Addr) (cap : Nat) (hs : List Int) (w0 : (Lit.int .i64 n).wf = true) (w1 : (Lit.int .i64 rule).wf = true) (w : World) (h : SAt w.heap.size ao (ints hs) w) (hm : hs.length ≤ maxLen) :
    Calls Try.prog 4 #[.int .i64 n, .int .i64 rule, .slice ao hs.length cap] w fun e w' => e = .returned (.bool true) ∧ Below w.heap.size w w' := by
  unfold maxLen at hm
  have H := Lib.hid h
  clear h
  by_cases hl : 100 < hs.length
  · have hl' : (100 : Int) < (hs.length : Int) := by omega
    go_enter Try.func4, Try.ntmps4
    go_wp2_with (go_at_call 13; refine (awake_any _).mono ?_; rintro e2 w2 ⟨rfl, hB⟩)
    go_ret
    exact ⟨rfl, hB⟩
  · have hl' : ¬ (100 : Int) < (hs.length : Int) := by omega
    go_enter Try.func4, Try.ntmps4
    go_wp2_with fail
    refine (Adjust_any ao cap hs n rule _ (by omega) H.out).mono ?_
    rintro e1 w1 ⟨r, hr, he, hB1⟩
    obtain ⟨a, ok, hq⟩ := dayRet_eq r
    rw [hq] at he
    subst he
    have HQ := Lib.hid hq
    have HR := Lib.hid hr
    have HB1 := Lib.hid hB1
    have s1 := hB1.size
    clear hq hr hB1
    go_wp2_with fail
    refine (rAdjust_any ao cap hs n rule _ (by omega) ((H.out.under HB1.out).mono s1)).mono ?_
    rintro e2 w2 ⟨r', hr', rfl, hB2⟩
    obtain rfl := hr'.one HR.out
    have HB2 := Lib.hid (below_mono HB1.out hB2 (Nat.le_refl _))
    clear hr' hB2
    go_wp2_with fail
    refine (told_any r' a ok HR.out.low HQ.out _).mono ?_
    rintro e3 w3 ⟨rfl, rfl⟩
    go_wp2_with fail
    refine (working_any ao cap hs n _ (by omega) (H.out.under HB2.out)).mono ?_
    rintro e3 w3 ⟨rfl, rfl⟩
    go_wp2_with fail
    refine (rworking_any ao cap hs n _ (by omega) (H.out.under HB2.out)).mono ?_
    rintro e3 w3 ⟨rfl, rfl⟩
    go_wp2_with fail
    refine (awake_any _).mono ?_
    rintro e4 w4 ⟨rfl, hB4⟩
    go_wp2_with fail
    go_ret
    exact ⟨rfl, below_mono HB2.out hB4 (Nat.le_refl _)⟩

set_option maxRecDepth 100000 in
set_option maxHeartbeats 1000000 in
theorem dateAdjusted_walk (k rule : Int) (ao : Option Addr) (cap : Nat) (hs : List Int) (w0 : (Lit.int .u32 k).wf = true) (w1 : (Lit.int .u8 rule).wf = true) (w : World) (h : SAt w.heap.size ao (ints hs) w) (hm : hs.length ≤ maxLen) :
    Calls Try.prog 9 #[.int .u32 k, .int .u8 rule, .slice ao hs.length cap] w fun e w' => e = .returned (.bool true) ∧ Below w.heap.size w w' := by
  unfold maxLen at hm
  have bk := bounds_u32 w0
  have bM := bounds_u8 w1
  clear w0 w1
  have H := Lib.hid h
  clear h
  by_cases hl : 15 < hs.length
  · have hl' : (15 : Int) < (hs.length : Int) := by omega
    go_enter Try.func9, Try.ntmps9
    go_wp2_with (go_at_call 13; refine (awake_any _).mono ?_; rintro e2 w2 ⟨rfl, hB⟩)
    go_ret
    exact ⟨rfl, hB⟩
  · have hl' : ¬ (15 : Int) < (hs.length : Int) := by omega
    obtain ⟨n, hn⟩ : ∃ n, k % 2932897 = n := ⟨_, rfl⟩
    obtain ⟨b, hb⟩ : ∃ b, 1 + rule % 3 = b := ⟨_, rfl⟩
    have n0 : 0 ≤ n := by omega
    have n1 : n ≤ 2932896 := by omega
    have b0 : 1 ≤ b := by omega
    have b1 : b ≤ 3 := by omega
    have HN := Lib.hid hn
    have HM := Lib.hid hb
    clear hn hb
    go_enter Try.func9, Try.ntmps9
    go_wp2_with fail
    rw [HN.out, HM.out]
    refine (Adjust_any ao cap hs n b _ (by omega) H.out).mono ?_
    rintro e1 w1 ⟨r, hr, he, hB1⟩
    by_cases r0 : 0 ≤ r
    · obtain ⟨g1, g2, g3, g4⟩ := hr.good n0 n1 ⟨b0, b1⟩ r0
      rw [dayRet_yes r0] at he
      subst he
      have HB1 := Lib.hid hB1
      have s1 := hB1.size
      have HG := Lib.hid g4
      have HR0 := Lib.hid (dayRet_yes r0)
      have HG1 := Lib.hid g1
      have c1 : ((b != 1) = true) ∨ ((b != 1) = false ∧ n ≤ r) := by
        by_cases e : b = 1
        · exact .inr ⟨by simp [e], g2 e⟩
        · exact .inl (by simp [e])
      have c3 : ((b != 3) = true) ∨ ((b != 3) = false ∧ r ≤ n) := by
        by_cases e : b = 3
        · exact .inr ⟨by simp [e], g3 e⟩
        · exact .inl (by simp [e])
      clear hr hB1 g1 g2 g3 g4
      rcases c1 with c1 | ⟨c1, c2⟩ <;> rcases c3 with c3 | ⟨c3, c4⟩
      all_goals
        go_wp2_with fail
        refine (Adjust_any ao cap hs r b _ (by omega) ((H.out.under HB1.out).mono s1)).mono ?_
        rintro e2 w2 ⟨r', hr', he', hB2⟩
        obtain rfl := hr'.one HG.out
        rw [HR0.out] at he'
        subst he'
        have HB2 := Lib.hid (below_mono HB1.out hB2 (Nat.le_refl _))
        clear hr' hB2
        go_wp2_with fail
        refine (working_any ao cap hs r' _ (by omega) (H.out.under HB2.out)).mono ?_
        rw [HG1.out]
        rintro e3 w3 ⟨rfl, rfl⟩
        go_wp2_with fail
        refine (awake_any _).mono ?_
        rintro e4 w4 ⟨rfl, hB4⟩
        go_wp2_with fail
        go_ret
        exact ⟨rfl, below_mono HB2.out hB4 (Nat.le_refl _)⟩
    · obtain rfl : r = -1 := by have := hr.low; omega
      rw [dayRet_no] at he
      subst he
      clear hr
      go_wp2_with fail
      refine (awake_any _).mono ?_
      rintro e4 w4 ⟨rfl, hB4⟩
      go_wp2_with fail
      go_ret
      exact ⟨rfl, below_mono hB1 hB4 (Nat.le_refl _)⟩
end Go.Proofs.Ytknahehmkjaelab
