/- The law LexStands walked. Conditions: those written at each theorem. -/
import Derived.Test.YtkfkoopfoiekoaaDoorLxJ
import Derived.Deep.RegionHeld3
namespace Go.Proofs.YtkfkoopfoiekoaaDoor
open Go.RowKit Go.PlainAid
set_option linter.unusedVariables false
set_option linter.unusedSimpArgs false
set_option maxRecDepth 100000 in
set_option maxHeartbeats 16000000 in
theorem lexStands_walk (s : ByteArray) (w0 : s.size ≤ maxLen) (W : World) (hE : EV W) : Calls Tryd.prog 5 #[.string s] W fun e w' => e = .returned (.bool true) ∧ Below W.heap.size W w' := by
  by_cases hbig : (4000 : Int) < (s.size : Int)
  · have CW := Lib.hid (words_long s w0 hbig)
    have CA := Lib.hid (awake_any W hE)
    clear hE hbig w0
    go_enter Tryd.func5, Tryd.ntmps5
    go_wp2_with (first | (go_at_call 7; (with_reducible refine (CW.out _).mono ?_); rintro e w2 ⟨rfl, rfl⟩) | (go_at_call 8; (with_reducible refine CA.out.mono ?_); rintro e w3 ⟨rfl, hb⟩; have HB := Lib.hid hb; clear hb))
    go_ret
    exact ⟨rfl, HB.out⟩
  have hs4 : s.size ≤ 4000 := by omega
  have CW := Lib.hid (words_any s hs4 W hE)
  have HE := Lib.hid hE
  have CA : Hid (∀ w1, Below W.heap.size W w1 → Calls Tryd.prog 8 #[] w1 fun e w' => e = .returned (.bool true) ∧ Below W.heap.size W w') := Lib.hid fun w1 hb => (awake_any w1 (hE.under (B := 0) hb)).mono fun e w' h => ⟨h.1, below_mono hb h.2 (Nat.le_refl _)⟩
  obtain ⟨n, hn1, hn2, hn3⟩ := fin_is s
  by_cases hf : (fin s).2 < s.size
  · have CW1 : Hid (Calls Tryd.prog 7 #[.string s] W fun e w' => e = .returned (.tuple #[.slice none 0 0, .int .i64 (fin s).2, .int .i64 11]) ∧ Below W.heap.size W w') := Lib.hid (CW.out.mono fun e w' h => ⟨by have h1 := h.1; unfold WsV at h1; rw [if_pos hf] at h1; exact h1, h.2⟩)
    clear CW hf hn1 hn2 hn3 hE hbig
    go_enter Tryd.func5, Tryd.ntmps5
    go_wp2_with (first | (go_at_call 7; (with_reducible refine CW1.out.mono ?_); rintro e w2 ⟨rfl, hb⟩; have HB2 := Lib.hid hb; clear hb) | (go_at_call 8; (with_reducible refine (CA.out _ HB2.out).mono ?_); rintro e w3 ⟨rfl, hb⟩; have HB := Lib.hid hb; clear hb))
    go_ret
    exact ⟨rfl, HB.out⟩
  have hfe : (it s n).2 = s.size := by have := it_at s n; rw [hn2] at hf; omega
  obtain ⟨ws, hws⟩ : ∃ x, x = (it s n).1 := ⟨_, rfl⟩
  have hwl : ws.length = n := by rw [hws]; exact hn3
  have CW1 : Hid (Calls Tryd.prog 7 #[.string s] W fun e w' => (∃ va vc, e = .returned (.tuple #[.slice va n vc, .int .i64 0, .int .i64 0]) ∧ w'.ownsRow W.heap.size 36 4 (.slice va n vc) n (wds ws)) ∧ Below W.heap.size W w') := Lib.hid (CW.out.mono fun e w' h => ⟨by have h1 := h.1; unfold WsV at h1; rw [if_neg hf, hn2, hn3, ← hws] at h1; exact h1, h.2⟩)
  have HGET := Lib.hid (it_get s n hn3)
  rw [← hws] at HGET
  have HFE := Lib.hid hfe
  have HZ := Lib.hid (str_len s)
  have hbt := get_bt s
  have hn4 : (n : Int) ≤ 4000 := by omega
  have hs44 : (s.size : Int) ≤ 4000 := by omega
  clear CW hf hn1 hn2 hn3 hE hbig hfe hws hwl w0 hs4
  go_enter Tryd.func5, Tryd.ntmps5
  go_upto_region 4 with (go_at_call 7; (with_reducible refine CW1.out.mono ?_); rintro e w1 ⟨⟨va, vc, rfl, hrow⟩, hb⟩; have HR := Lib.hid hrow; have HB1 := Lib.hid hb; clear hb hrow CW1)
  go_upto_region 7 with fail
  go_loopw [6, 7, 8] (fun av nv iv wr => ∃ (i p : Nat) (r : Bool), iv = .int .i64 i ∧ av = .int .i64 p ∧ nv = .bool r ∧ i ≤ n + 1 ∧ (i ≤ n → r = false ∧ p ≤ s.size ∧ (it s i).2 = p + bl false (s.data.toList.drop p)) ∧ Hid (wr.ownsRow W.heap.size 36 4 (.slice va n vc) n (wds ws) ∧ Below W.heap.size W wr)) (fun _ _ iv _ => n + 1 - (intOf iv).toNat)
  case atStart => exact ⟨0, 0, false, rfl, rfl, rfl, by omega, fun _ => ⟨rfl, by omega, by simp [it]⟩, Lib.hid ⟨HR.out, HB1.out⟩⟩
  case round =>
    obtain ⟨i, p, r, rfl, rfl, rfl, hin, hrel2, HRB⟩ := hrel
    clear HR HB1
    by_cases hi : i ≤ n
    · obtain ⟨rfl, hps, hq0⟩ := hrel2 hi
      by_cases hlt : i < n
      · obtain ⟨hlen, kd, len, v, hget, hqs, hfs, hnext, hl1, hl2⟩ := HGET.out i hlt
        obtain ⟨q, hq⟩ : ∃ x, x = (it s i).2 := ⟨_, rfl⟩
        rw [← hq] at hq0 hget hqs hnext hl2
        obtain ⟨a, rfl, c0, c1, c2, c3⟩ := row_four HRB.out.1 hget (by omega)
        obtain ⟨p2, hp2⟩ : ∃ x, x = q + len := ⟨_, rfl⟩
        simp only at c0 c1 c2 c3
        rw [← hp2] at c1 hnext hl2
        have HPQ : Hid (q = p + bl false (s.data.toList.drop p)) := Lib.hid hq0
        have HQS := Lib.hid hqs
        have HNX := Lib.hid hnext
        have hpq : p ≤ q := by omega
        have hq2 : q ≤ s.size := by omega
        have hpq' : (p : Int) ≤ (q : Int) := by omega
        have hq2' : (q : Int) ≤ (s.size : Int) := by omega
        have hp2' : (p2 : Int) ≤ (s.size : Int) := by omega
        have hqp2 : (q : Int) ≤ (p2 : Int) := by omega
        have htz : (s.extract q p2).size = len := by rw [← str_len, ext_list, List.length_drop, List.length_take, HZ.out]; omega
        have hw1 : IntKind.i64.wrap ((q : Int) + (len : Int)) = (p2 : Int) := (IntWalk.i64_in _ (by omega)).trans (by omega)
        have hlen0 : ¬ (len : Int) = 0 := by omega
        have hlen1 : ((len : Int) == 0) = false := by simp; omega
        clear hrel2 hlen hget hfs hq hq0 hnext hqs hp2
        go_upto_region 14 with fail
        go_loopw [6, 7] (fun a nt wr2 => ∃ (k : Nat) (r : Bool), p ≤ k ∧ k ≤ q ∧ a = .int .i64 k ∧ nt = .bool r ∧ Hid (q = k + bl r (s.data.toList.drop k)) ∧ wr = wr2) (fun a _ _ => q - (intOf a).toNat)
        case atStart => exact ⟨p, false, Nat.le_refl _, by omega, rfl, rfl, HPQ, rfl⟩
        case round =>
          obtain ⟨k, r, hk1, hk2, rfl, rfl, HK, rfl⟩ := hrel
          by_cases hkq : k < q
          · obtain ⟨c, l, hd⟩ : ∃ c l, s.data.toList.drop k = c :: l := ⟨_, _, List.drop_eq_getElem_cons (by rw [HZ.out]; omega)⟩
            obtain ⟨q1, hks, q2⟩ := bt_list (l := []) hd
            have HD : Hid (bl r (s.data.toList.drop k) = if bk r (bt s k) then bl (br r (bt s k)) (s.data.toList.drop (k + 1)) + 1 else 0) := Lib.hid (by rw [hd, q2, q1]; rfl)
            have hbk : bk r (bt s k) = true := by
              cases hb2 : bk r (bt s k) with
              | true => rfl
              | false => have h1 := HK.out; rw [HD.out, hb2] at h1; simp at h1; omega
            have HN : Hid (q = k + 1 + bl (br r (bt s k)) (s.data.toList.drop (k + 1))) := Lib.hid (by have h1 := HK.out; rw [HD.out, hbk] at h1; simp at h1; omega)
            clear hd q1 q2 HD HK
            by_cases h10 : bt s k = 10
            · have HB : Hid (br r (bt s k) = false) := Lib.hid (by simp [br, h10])
              clear hbk
              go_wp2_with fail
              go_roundw
              case rel => exact ⟨k + 1, false, by omega, by omega, by go_num, rfl, Lib.hid (by have := HN.out; rw [HB.out] at this; exact this), trivial⟩
              case measure => simp [intOf]; omega
            by_cases h35 : bt s k = 35
            · have HB : Hid (br r (bt s k) = true) := Lib.hid (by simp [br, h35])
              clear hbk h10
              go_wp2_with fail
              go_roundw
              case rel => exact ⟨k + 1, true, by omega, by omega, by go_num, rfl, Lib.hid (by have := HN.out; rw [HB.out] at this; exact this), trivial⟩
              case measure => simp [intOf]; omega
            have HB : Hid (br r (bt s k) = r) := Lib.hid (by simp [br, h10, h35])
            cases r with
            | true =>
              clear hbk
              go_wp2_with fail
              go_roundw
              case rel => exact ⟨k + 1, true, by omega, by omega, by go_num, rfl, Lib.hid (by have := HN.out; rw [HB.out] at this; exact this), trivial⟩
              case measure => simp [intOf]; omega
            | false =>
              have h329 : bt s k = 32 ∨ bt s k = 9 := by simpa [bk, h10, h35] using hbk
              clear hbk h10 h35
              rcases h329 with h32 | h9 <;> (
                go_wp2_with fail
                go_roundw
                case rel => exact ⟨k + 1, false, by omega, by omega, by go_num, rfl, Lib.hid (by have := HN.out; rw [HB.out] at this; exact this), trivial⟩
                case measure => simp [intOf]; omega)
          · obtain rfl : k = q := by omega
            have hr : r = false := by
              obtain ⟨c, l, hd⟩ : ∃ c l, s.data.toList.drop k = c :: l := ⟨_, _, List.drop_eq_getElem_cons (by rw [HZ.out]; exact HQS.out)⟩
              have h1 := HK.out
              rw [hd] at h1
              unfold bl at h1
              cases r with
              | false => rfl
              | true => rw [if_pos (by simp [bk])] at h1; omega
            subst hr
            clear HK
            go_upto_region 27 with fail
            have H27 := Lib.hid (And.intro hl2 hlt)
            have C1 := Lib.hid c1
            have hi27 : (i : Int) < (n : Int) := by omega
            have hn27 : ((s.size : Int) < (p2 : Int)) = False := by simp only [eq_iff_iff, iff_false]; omega
            clear c0 c2 c3 hbt hpq hpq' hk1 hk2 hl1 hps hin hi hl2 hlt hkq
            go_region_held3 (fun W => W.cell? ⟨(a.add (i * 4)).block, (a.add (i * 4)).off + 1, none⟩ = some (.string (s.extract k p2))) (exact C1.out) (fail)
            have hlt := H27.out.2
            go_wp2_with fail
            go_roundw
            case rel => exact ⟨i + 1, p2, false, by go_num, rfl, rfl, by omega, fun _ => ⟨rfl, H27.out.1, HNX.out⟩, Lib.hid ⟨row_stay HRB.out.1 fun _ _ => rfl, HRB.out.2.drew⟩⟩
            case measure => simp [intOf]; omega
      · obtain rfl : i = n := by omega
        obtain ⟨q, hq⟩ : ∃ x, x = s.size := ⟨_, rfl⟩
        have HPQ : Hid (q = p + bl false (s.data.toList.drop p)) := Lib.hid (by rw [hq, ← HFE.out]; exact hq0)
        have HQE := Lib.hid hq
        have hpq : p ≤ q := by omega
        have hq2 : q ≤ s.size := by omega
        have hpq' : (p : Int) ≤ (q : Int) := by omega
        have hq2' : (q : Int) ≤ (s.size : Int) := by omega
        have hqz : (s.size : Int) = (q : Int) := by omega
        clear hrel2 hq0
        go_upto_region 14 with fail
        go_loopw [6, 7] (fun a nt wr2 => ∃ (k : Nat) (r : Bool), p ≤ k ∧ k ≤ q ∧ a = .int .i64 k ∧ nt = .bool r ∧ Hid (q = k + bl r (s.data.toList.drop k)) ∧ wr = wr2) (fun a _ _ => q - (intOf a).toNat)
        case atStart => exact ⟨p, false, Nat.le_refl _, by omega, rfl, rfl, HPQ, rfl⟩
        case round =>
          obtain ⟨k, r, hk1, hk2, rfl, rfl, HK, rfl⟩ := hrel
          by_cases hkq : k < q
          · obtain ⟨c, l, hd⟩ : ∃ c l, s.data.toList.drop k = c :: l := ⟨_, _, List.drop_eq_getElem_cons (by rw [HZ.out]; omega)⟩
            obtain ⟨q1, hks, q2⟩ := bt_list (l := []) hd
            have HD : Hid (bl r (s.data.toList.drop k) = if bk r (bt s k) then bl (br r (bt s k)) (s.data.toList.drop (k + 1)) + 1 else 0) := Lib.hid (by rw [hd, q2, q1]; rfl)
            have hbk : bk r (bt s k) = true := by
              cases hb2 : bk r (bt s k) with
              | true => rfl
              | false => have h1 := HK.out; rw [HD.out, hb2] at h1; simp at h1; omega
            have HN : Hid (q = k + 1 + bl (br r (bt s k)) (s.data.toList.drop (k + 1))) := Lib.hid (by have h1 := HK.out; rw [HD.out, hbk] at h1; simp at h1; omega)
            clear hd q1 q2 HD HK
            by_cases h10 : bt s k = 10
            · have HB : Hid (br r (bt s k) = false) := Lib.hid (by simp [br, h10])
              clear hbk
              go_wp2_with fail
              go_roundw
              case rel => exact ⟨k + 1, false, by omega, by omega, by go_num, rfl, Lib.hid (by have := HN.out; rw [HB.out] at this; exact this), trivial⟩
              case measure => simp [intOf]; omega
            by_cases h35 : bt s k = 35
            · have HB : Hid (br r (bt s k) = true) := Lib.hid (by simp [br, h35])
              clear hbk h10
              go_wp2_with fail
              go_roundw
              case rel => exact ⟨k + 1, true, by omega, by omega, by go_num, rfl, Lib.hid (by have := HN.out; rw [HB.out] at this; exact this), trivial⟩
              case measure => simp [intOf]; omega
            have HB : Hid (br r (bt s k) = r) := Lib.hid (by simp [br, h10, h35])
            cases r with
            | true =>
              clear hbk
              go_wp2_with fail
              go_roundw
              case rel => exact ⟨k + 1, true, by omega, by omega, by go_num, rfl, Lib.hid (by have := HN.out; rw [HB.out] at this; exact this), trivial⟩
              case measure => simp [intOf]; omega
            | false =>
              have h329 : bt s k = 32 ∨ bt s k = 9 := by simpa [bk, h10, h35] using hbk
              clear hbk h10 h35
              rcases h329 with h32 | h9 <;> (
                go_wp2_with fail
                go_roundw
                case rel => exact ⟨k + 1, false, by omega, by omega, by go_num, rfl, Lib.hid (by have := HN.out; rw [HB.out] at this; exact this), trivial⟩
                case measure => simp [intOf]; omega)
          · obtain rfl : k = q := by omega
            cases r <;> (
              go_wp2_with fail
              go_roundw
              case rel => exact ⟨i + 1, k, _, by go_num, rfl, rfl, by omega, fun h => absurd h (by omega), HRB⟩
              case measure => (simp [intOf]; try omega))
    · go_wp2_with (go_at_call 8; (with_reducible refine (CA.out _ HRB.out.2).mono ?_); rintro e w3 ⟨rfl, hb⟩; have HB := Lib.hid hb; clear hb)
      go_ret
      exact ⟨rfl, HB.out⟩
end Go.Proofs.YtkfkoopfoiekoaaDoor
