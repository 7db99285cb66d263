/- The law LexWords walked. Conditions: those written at each theorem. -/
import Derived.Test.YtkfkoopfoiekoaaDoorLxR
import Derived.Test.YtkfkoopfoiekoaaDoorLxN
import Derived.Test.YtkfkoopfoiekoaaDoorLxJ
import Derived.Test.YtkfkoopfoiekoaaDoorLxI
import Derived.Deep.RegionHeld3
namespace Go.Proofs.YtkfkoopfoiekoaaDoor
open Go.RowKit Go.PlainAid
set_option linter.unusedVariables false
set_option linter.unusedSimpArgs false
set_option maxRecDepth 100000 in
set_option maxHeartbeats 16000000 in
theorem lexWords_walk (s : ByteArray) (w0 : s.size ≤ maxLen) (W : World) (hE : EV W) : Calls Tryd.prog 3 #[.string s] W fun e w' => e = .returned (.bool true) ∧ Below W.heap.size W w' := by
  by_cases hbig : (4000 : Int) < (s.size : Int)
  · have CW := Lib.hid (words_long s w0 hbig)
    have CA := Lib.hid (awake_any W hE)
    clear hE w0
    go_enter Tryd.func3, Tryd.ntmps3
    go_wp2_with (first | (go_at_call 7; (with_reducible refine (CW.out _).mono ?_); rintro e w2 ⟨rfl, rfl⟩) | (go_at_call 8; (with_reducible refine CA.out.mono ?_); rintro e w3 ⟨rfl, hb⟩; have HB := Lib.hid hb; clear hb))
    go_ret
    exact ⟨rfl, HB.out⟩
  have hs4 : s.size ≤ 4000 := by omega
  have CW := Lib.hid (words_any s hs4 W hE)
  have CD := Lib.hid (words_doc s hs4)
  have CA : Hid (∀ w1, Below W.heap.size W w1 → Calls Tryd.prog 8 #[] w1 fun e w' => e = .returned (.bool true) ∧ Below W.heap.size W w') := Lib.hid fun w1 hb => (awake_any w1 (hE.under (B := 0) hb)).mono fun e w' h => ⟨h.1, below_mono hb h.2 (Nat.le_refl _)⟩
  obtain ⟨n, hn1, hn2, hn3⟩ := fin_is s
  by_cases hf : (fin s).2 < s.size
  · have CW1 : Hid (Calls Tryd.prog 7 #[.string s] W fun e w' => e = .returned (.tuple #[.slice none 0 0, .int .i64 (fin s).2, .int .i64 11]) ∧ Below W.heap.size W w') := Lib.hid (CW.out.mono fun e w' h => ⟨by have h1 := h.1; unfold WsV at h1; rw [if_pos hf] at h1; exact h1, h.2⟩)
    have CD1 : Hid (∀ w1, Calls Tryd.prog 9 #[.string s] w1 fun e w' => e = .returned (.tuple #[.slice none 0 0, .int .i64 (fin s).2]) ∧ Below w1.heap.size w1 w') := Lib.hid fun w1 => (CD.out w1).mono fun e w' h => ⟨by have h1 := h.1; unfold WrV at h1; rw [if_pos hf] at h1; exact h1, h.2⟩
    obtain ⟨f2, hf2⟩ : ∃ x, x = (fin s).2 := ⟨_, rfl⟩
    rw [← hf2] at CW1 CD1
    have hf0 : (0 : Int) ≤ (f2 : Int) := by omega
    clear CW CD hf hn1 hn2 hn3 hE hf2 w0 hs4
    go_enter Tryd.func3, Tryd.ntmps3
    go_wp2_with (first | (go_at_call 7; (with_reducible refine CW1.out.mono ?_); rintro e w2 ⟨rfl, hb⟩; have HB2 := Lib.hid hb; clear hb) | (go_at_call 9; (with_reducible refine (CD1.out _).mono ?_); rintro e w3 ⟨rfl, hb⟩; have HB3 := Lib.hid hb; clear hb) | (go_at_call 8; (with_reducible refine (CA.out _ (below_mono HB2.out HB3.out (Nat.le_refl _))).mono ?_); rintro e w4 ⟨rfl, hb⟩; have HB := Lib.hid hb; clear hb))
    go_ret
    exact ⟨by simp, HB.out⟩
  obtain ⟨ws, hws⟩ : ∃ x, x = (it s n).1 := ⟨_, rfl⟩
  have hwl : ws.length = n := by rw [hws]; exact hn3
  have CW1 : Hid (Calls Tryd.prog 7 #[.string s] W fun e w' => (∃ va vc, e = .returned (.tuple #[.slice va n vc, .int .i64 0, .int .i64 0]) ∧ w'.ownsRow W.heap.size 36 4 (.slice va n vc) n (wds ws)) ∧ Below W.heap.size W w') := Lib.hid (CW.out.mono fun e w' h => ⟨by have h1 := h.1; unfold WsV at h1; rw [if_neg hf, hn2, hn3, ← hws] at h1; exact h1, h.2⟩)
  have CD1 : Hid (∀ w1, Calls Tryd.prog 9 #[.string s] w1 fun e w' => (∃ va vc, e = .returned (.tuple #[.slice va n vc, .int .i64 (-1)]) ∧ w'.ownsRow w1.heap.size 41 4 (.slice va n vc) n (wds ws)) ∧ Below w1.heap.size w1 w') := Lib.hid fun w1 => (CD.out w1).mono fun e w' h => ⟨by have h1 := h.1; unfold WrV at h1; rw [if_neg hf, hn2, hn3, ← hws] at h1; exact h1, h.2⟩
  have HWL := Lib.hid hwl
  have HN4 : Hid (n ≤ 4000) := Lib.hid (by omega)
  clear CW CD hf hn1 hn2 hn3 hE hws hwl w0 hs4
  go_enter Tryd.func3, Tryd.ntmps3
  go_wp2_with (first | (go_at_call 7; (with_reducible refine CW1.out.mono ?_); rintro e w1 ⟨⟨va, vc, rfl, hrow⟩, hb⟩; have HR1 := Lib.hid hrow; have HB1 := Lib.hid hb; clear hb hrow) | (go_at_call 9; (with_reducible refine (CD1.out _).mono ?_); rintro e w2 ⟨⟨vb, vd, rfl, hrow⟩, hb⟩; have HR2 := Lib.hid hrow; have HB2 := Lib.hid hb; clear hb hrow) | (go_at_call 11; (with_reducible refine (told_any (row_below HR1.out HB2.out) HWL.out HN4.out).mono ?_); rintro e w3 ⟨⟨vb3, vd3, rfl, hrow⟩, hb⟩; have HR3 := Lib.hid hrow; have HB3 := Lib.hid hb; clear hb hrow) | (go_at_call 10; (with_reducible refine (rsame_any HR3.out (row_below HR2.out HB3.out) HWL.out HN4.out).mono ?_); rintro e w4 ⟨rfl, hb⟩; have HB4 := Lib.hid hb; clear hb) | (go_at_call 8; (with_reducible refine (CA.out _ (below_mono (below_mono (below_mono HB1.out HB2.out (Nat.le_refl _)) HB3.out (Nat.le_refl _)) HB4.out (Nat.le_refl _))).mono ?_); rintro e w5 ⟨rfl, hb⟩; have HB := Lib.hid hb; clear hb))
  go_ret
  exact ⟨by simp, HB.out⟩
end Go.Proofs.YtkfkoopfoiekoaaDoor
