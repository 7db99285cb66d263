/- The law LexSpaces walked. Conditions: those written at each theorem. -/
import Derived.Test.YtkfkoopfoiekoaaDoorLxL
import Derived.Deep.RegionHeld3
namespace Go.Proofs.YtkfkoopfoiekoaaDoor
open Go.RowKit Go.PlainAid
set_option linter.unusedVariables false
set_option linter.unusedSimpArgs false
theorem app_list (a b : ByteArray) : (a ++ b).data.toList = a.data.toList ++ b.data.toList := by simp
set_option maxRecDepth 100000 in
set_option maxHeartbeats 16000000 in
theorem lexSpaces_walk (s : ByteArray) (rm : Bool) (w0 : s.size ≤ maxLen) (W : World) (hE : EV W) : Calls Tryd.prog 6 #[.string s, .bool rm] W fun e w' => e = .returned (.bool true) ∧ Below W.heap.size W w' := by
  by_cases hbig : (4000 : Int) < (s.size : Int)
  · have CW := Lib.hid (words_long s w0 hbig)
    have CA := Lib.hid (awake_any W hE)
    clear hE hbig w0
    go_enter Tryd.func6, Tryd.ntmps6
    go_wp2_with (first | (go_at_call 7; (with_reducible refine (CW.out _).mono ?_); rintro e w2 ⟨rfl, rfl⟩) | (go_at_call 8; (with_reducible refine CA.out.mono ?_); rintro e w3 ⟨rfl, hb⟩; have HB := Lib.hid hb; clear hb))
    go_ret
    exact ⟨rfl, HB.out⟩
  have hs4 : s.size ≤ 4000 := by omega
  have CW := Lib.hid (words_any s hs4 W hE)
  have CA : Hid (∀ w1, Below W.heap.size W w1 → Calls Tryd.prog 8 #[] w1 fun e w' => e = .returned (.bool true) ∧ Below W.heap.size W w') := Lib.hid fun w1 hb => (awake_any w1 (hE.under (B := 0) hb)).mono fun e w' h => ⟨h.1, below_mono hb h.2 (Nat.le_refl _)⟩
  obtain ⟨n, hn1, hn2, hn3⟩ := fin_is s
  by_cases hf : (fin s).2 < s.size
  · have CW1 : Hid (Calls Tryd.prog 7 #[.string s] W fun e w' => e = .returned (.tuple #[.slice none 0 0, .int .i64 (fin s).2, .int .i64 11]) ∧ Below W.heap.size W w') := Lib.hid (CW.out.mono fun e w' h => ⟨by have h1 := h.1; unfold WsV at h1; rw [if_pos hf] at h1; exact h1, h.2⟩)
    clear CW hf hn1 hn2 hn3 hE hbig
    go_enter Tryd.func6, Tryd.ntmps6
    go_wp2_with (first | (go_at_call 7; (with_reducible refine CW1.out.mono ?_); rintro e w2 ⟨rfl, hb⟩; have HB2 := Lib.hid hb; clear hb) | (go_at_call 8; (with_reducible refine (CA.out _ HB2.out).mono ?_); rintro e w3 ⟨rfl, hb⟩; have HB := Lib.hid hb; clear hb))
    go_ret
    exact ⟨rfl, HB.out⟩
  obtain ⟨ws, hws⟩ : ∃ x, x = (it s n).1 := ⟨_, rfl⟩
  have hwl : ws.length = n := by rw [hws]; exact hn3
  have CW1 : Hid (Calls Tryd.prog 7 #[.string s] W fun e w' => (∃ va vc, e = .returned (.tuple #[.slice va n vc, .int .i64 0, .int .i64 0]) ∧ w'.ownsRow W.heap.size 36 4 (.slice va n vc) n (wds ws)) ∧ Below W.heap.size W w') := Lib.hid (CW.out.mono fun e w' h => ⟨by have h1 := h.1; unfold WsV at h1; rw [if_neg hf, hn2, hn3, ← hws] at h1; exact h1, h.2⟩)
  have HOK := Lib.hid (words_ok s n hn3)
  rw [← hws] at HOK
  have HWL := Lib.hid hwl
  have HE := Lib.hid hE
  clear CW hf hn2 hn3 hE hbig hws hwl w0
  by_cases h500 : (500 : Int) < (s.size : Int)
  · clear hs4
    go_enter Tryd.func6, Tryd.ntmps6
    go_wp2_with (first | (go_at_call 7; (with_reducible refine CW1.out.mono ?_); rintro e w2 ⟨⟨va, vc, rfl, hrow⟩, hb⟩; have HB2 := Lib.hid hb; clear hb hrow) | (go_at_call 8; (with_reducible refine (CA.out _ HB2.out).mono ?_); rintro e w3 ⟨rfl, hb⟩; have HB := Lib.hid hb; clear hb))
    go_ret
    exact ⟨rfl, HB.out⟩
  have hn5 : (n : Int) ≤ 500 := by omega
  have HS5 : Hid (s.size ≤ 500) := Lib.hid (by omega)
  clear hs4 hn1
  go_enter Tryd.func6, Tryd.ntmps6
  go_upto_region 4 with (go_at_call 7; (with_reducible refine CW1.out.mono ?_); rintro e w1 ⟨⟨va, vc, rfl, hrow⟩, hb⟩; have HR := Lib.hid hrow; have HB1 := Lib.hid hb; clear hb hrow CW1)
  go_upto_region 6 with fail
  go_loopw [8, 9] (fun tv iv wr => ∃ (i : Nat) (T : ByteArray), iv = .int .i64 i ∧ tv = .string T ∧ i ≤ n ∧ T.size ≤ 600 * i ∧ Hid (T.data.toList = lay rm (ws.take i)) ∧ w1 = wr) (fun _ iv _ => n - (intOf iv).toNat)
  case atStart => exact ⟨0, ⟨#[]⟩, rfl, rfl, by omega, by decide, Lib.hid rfl, rfl⟩
  case round =>
    obtain ⟨i, T, rfl, rfl, hin, hTz, HT, rfl⟩ := hrel
    by_cases hlt : i < n
    · obtain ⟨x, hx⟩ : ∃ x, ws[i]? = some x := ⟨_, List.getElem?_eq_getElem (by rw [HWL.out]; exact hlt)⟩
      obtain ⟨a, rfl, c0, c1, c2, c3⟩ := row_four HR.out hx (by omega)
      have hxz := (HOK.out x (List.mem_of_getElem? hx)).2
      have hxz5 : x.t.size ≤ 500 := Nat.le_trans hxz HS5.out
      have HTK : Hid (ws.take (i + 1) = ws.take i ++ [x]) := Lib.hid (by rw [List.take_add_one, hx]; rfl)
      obtain ⟨xt, hxt⟩ : ∃ y, y = x.t := ⟨_, rfl⟩
      have HXT := Lib.hid hxt
      rw [← hxt] at c1 hxz5
      have b1 : (9223372036854775807 < T.size + xt.size) = False := by simp only [eq_iff_iff, iff_false]; omega
      have b2 : (9223372036854775807 < T.size + xt.size + 1) = False := by simp only [eq_iff_iff, iff_false]; omega
      have b3 : (9223372036854775807 < T.size + xt.size + 1 + 4) = False := by simp only [eq_iff_iff, iff_false]; omega
      have hi27 : (i : Int) < (n : Int) := by omega
      clear c0 c2 c3 hx hxz hxt
      have HSX : Hid (T.size + xt.size + 5 ≤ 600 * (i + 1)) := Lib.hid (by omega)
      cases rm
      · go_wp2_with fail
        go_roundw
        case rel => exact ⟨i + 1, _, by go_num, rfl, by omega, by have := HSX.out; rw [ByteArray.size_append, ByteArray.size_append, show (⟨#[32]⟩ : ByteArray).size = 1 from rfl]; omega, Lib.hid (by rw [HTK.out, lay_snoc, app_list, app_list, HT.out, ← HXT.out, List.append_assoc]; rfl), trivial⟩
        case measure => simp [intOf]; omega
      · go_wp2_with fail
        go_roundw
        case rel => exact ⟨i + 1, _, by go_num, rfl, by omega, by have := HSX.out; rw [ByteArray.size_append, ByteArray.size_append, ByteArray.size_append, show (⟨#[32]⟩ : ByteArray).size = 1 from rfl, show (⟨#[35, 32, 40, 10]⟩ : ByteArray).size = 4 from rfl]; omega, Lib.hid (by rw [HTK.out, lay_snoc, app_list, app_list, app_list, HT.out, ← HXT.out, List.append_assoc, List.append_assoc]; rfl), trivial⟩
        case measure => simp [intOf]; omega
    · obtain rfl : i = n := by omega
      have hTL : T.data.toList = lay rm ws := by rw [HT.out, ← HWL.out, List.take_length]
      obtain ⟨l, hl1, hl2, hl3⟩ := fin_lay rm T ws hTL (fun x hx => (HOK.out x hx).1)
      have HL3 := Lib.hid hl3
      have HEV := Lib.hid (HE.out.under (B := 0) HB1.out)
      have HR1 := Lib.hid (Nat.le_trans HB1.out.size (Nat.le_refl _))
      by_cases hbig : (4000 : Int) < (T.size : Int)
      · have CW2 := Lib.hid (words_long T (by unfold maxLen; omega) hbig)
        clear hl1 hl2 hl3 hTL hlt hTz
        go_wp2_with (first | (go_at_call 7; (with_reducible refine (CW2.out _).mono ?_); rintro e w2 ⟨rfl, rfl⟩) | (go_at_call 8; (with_reducible refine (CA.out _ HB1.out).mono ?_); rintro e w3 ⟨rfl, hb⟩; have HB := Lib.hid hb; clear hb))
        go_ret
        exact ⟨rfl, HB.out⟩
      have CW2 : Hid (Calls Tryd.prog 7 #[.string T] w1 fun e w' => (∃ vb vd, e = .returned (.tuple #[.slice vb i vd, .int .i64 0, .int .i64 0]) ∧ w'.ownsRow w1.heap.size 36 4 (.slice vb i vd) i (wds l)) ∧ Below w1.heap.size w1 w') := Lib.hid ((words_any T (by omega) w1 HEV.out).mono fun e w' h => ⟨by have h1 := h.1; unfold WsV at h1; rw [hl1] at h1; simp only [Nat.lt_irrefl, if_false] at h1; rw [hl2, HWL.out] at h1; exact h1, h.2⟩)
      clear hl1 hl2 hl3 hTL hlt hTz
      go_upto_region 17 with (go_at_call 7; (with_reducible refine CW2.out.mono ?_); rintro e w2 ⟨⟨vb, vd, rfl, hrow⟩, hb⟩; have HM := Lib.hid hrow; have HB2 := Lib.hid hb; clear hb hrow CW2)
      go_loopw [13] (fun iv wr => ∃ (j : Nat), iv = .int .i64 j ∧ j ≤ i ∧ Hid (wr.ownsRow W.heap.size 36 4 (.slice va i vc) i (wds ws) ∧ wr.ownsRow w1.heap.size 36 4 (.slice vb i vd) i (wds l) ∧ Below W.heap.size W wr)) (fun iv _ => i - (intOf iv).toNat)
      case atStart => exact ⟨0, rfl, by omega, Lib.hid ⟨row_below HR.out HB2.out, HM.out, below_mono HB1.out HB2.out (Nat.le_refl _)⟩⟩
      case round =>
        clear HR HB1 HM HB2
        obtain ⟨j, rfl, hji, HRB⟩ := hrel
        by_cases hlt : j < i
        · obtain ⟨x, hx⟩ : ∃ x, ws[j]? = some x := ⟨_, List.getElem?_eq_getElem (by rw [HWL.out]; exact hlt)⟩
          obtain ⟨p, hy⟩ := HL3.out j x hx
          obtain ⟨a, rfl, c0, c1, c2, c3⟩ := row_four HRB.out.1 hx (by omega)
          obtain ⟨b, rfl, d0, d1, d2, d3⟩ := row_four HRB.out.2.1 hy (by omega)
          simp only at d0 d1 d2
          obtain ⟨xk, hk⟩ : ∃ y, y = x.k := ⟨_, rfl⟩
          obtain ⟨xt, ht⟩ : ∃ y, y = x.t := ⟨_, rfl⟩
          obtain ⟨xn, hn⟩ : ∃ y, y = x.n := ⟨_, rfl⟩
          rw [← hk] at c0 d0
          rw [← ht] at c1 d1
          rw [← hn] at c2 d2
          have CC := Lib.hid (And.intro c0 (And.intro c1 (And.intro c2 (And.intro d0 (And.intro d1 d2)))))
          have hj27 : (j : Int) < (i : Int) := by omega
          have HJ := Lib.hid hlt
          clear c0 c1 c2 c3 d0 d1 d2 d3 hx hy hk ht hn hlt
          go_upto_region 19 with fail
          go_region_held3 (fun w' => w'.cell? (a.add (j * 4)) = some (.int .i64 xk) ∧ w'.cell? ⟨(a.add (j * 4)).block, (a.add (j * 4)).off + 1, none⟩ = some (.string xt) ∧ w'.cell? ⟨(a.add (j * 4)).block, (a.add (j * 4)).off + 2, none⟩ = some (.int .i64 xn) ∧ w'.cell? (b.add (j * 4)) = some (.int .i64 xk) ∧ w'.cell? ⟨(b.add (j * 4)).block, (b.add (j * 4)).off + 1, none⟩ = some (.string xt) ∧ w'.cell? ⟨(b.add (j * 4)).block, (b.add (j * 4)).off + 2, none⟩ = some (.int .i64 xn)) (exact CC.out) (fail)
          have hlt := HJ.out
          go_wp2_with fail
          go_roundw
          case rel => exact ⟨j + 1, by go_num, by omega, Lib.hid ⟨row_stay HRB.out.1 fun _ _ => rfl, row_stay HRB.out.2.1 fun _ _ => rfl, HRB.out.2.2.drew⟩⟩
          case measure => simp [intOf]; omega
        · obtain rfl : j = i := by omega
          go_wp2_with (go_at_call 8; (with_reducible refine (CA.out _ HRB.out.2.2).mono ?_); rintro e w3 ⟨rfl, hb⟩; have HB := Lib.hid hb; clear hb)
          go_ret
          exact ⟨rfl, HB.out⟩
end Go.Proofs.YtkfkoopfoiekoaaDoor
