/- The law CrcPieces walked: the sum of two pieces; of three texts of one length the sums go together as the texts do. No conditions but that the table stands there. -/
import Derived.Test.YtblelfonnelglaaDoorLCrc1
import Derived.Test.YtblelfonnelglaaDoorCrcP
import Derived.Test.YtblelfonnelglaaDoorCrcY
import Derived.WalkLawsBesides
import Derived.RegionTactic
import Derived.Lib.QuietBelow
import Derived.Deep.DeepCutAuto
import Derived.Deep.CutRange
namespace Go.Proofs.YtblelfonnelglaaDoor
open Go.RowKit Go.Sort
set_option linter.unusedSimpArgs false
set_option linter.unusedVariables false

/-- Three texts of one length together, so many places of them; behind these the first one's. -/
def tri (a b c : List UInt8) : List UInt8 := List.zipWith (· ^^^ ·) (List.zipWith (· ^^^ ·) a b) c
def mix (a b c : List UInt8) (j : Nat) : List UInt8 := (tri a b c).take j ++ a.drop j
theorem tri_len (a b c : List UInt8) (h1 : a.length = b.length) (h2 : a.length = c.length) : (tri a b c).length = a.length := by simp [tri]; omega
theorem mix_len (a b c : List UInt8) (j : Nat) (h1 : a.length = b.length) (h2 : a.length = c.length) : (mix a b c j).length = a.length := by
  simp [mix, tri_len a b c h1 h2]; omega
theorem mix_zero (a b c : List UInt8) : mix a b c 0 = a := by simp [mix]
theorem mix_all (a b c : List UInt8) (h1 : a.length = b.length) (h2 : a.length = c.length) : mix a b c a.length = tri a b c := by
  unfold mix; rw [List.take_of_length_le (by rw [tri_len a b c h1 h2]; omega), List.drop_of_length_le (Nat.le_refl _), List.append_nil]
theorem mix_succ (a b c : List UInt8) (j : Nat) (h1 : a.length = b.length) (h2 : a.length = c.length) (hj : j < a.length) : mix a b c (j + 1) = (mix a b c j).set j (a[j] ^^^ b[j]'(by omega) ^^^ c[j]'(by omega)) := by
  have ht := tri_len a b c h1 h2
  have e : (tri a b c)[j]'(by omega) = a[j] ^^^ b[j]'(by omega) ^^^ c[j]'(by omega) := by simp [tri]
  unfold mix
  rw [← e, List.take_succ_eq_append_getElem (by omega), List.drop_eq_getElem_cons hj, List.set_append_right _ _ (by rw [List.length_take]; omega), List.length_take, Nat.min_eq_left (by omega), Nat.sub_self, List.set_cons_zero, List.append_assoc]
  rfl
theorem xor3 (a b c : UInt8) : bits .xor .u8 (bits .xor .u8 (a.toNat : Int) (b.toNat : Int)) (c.toNat : Int) = (((a ^^^ b ^^^ c).toNat : Nat) : Int) := by
  have ha := a.toNat_lt
  have hb := b.toNat_lt
  have hc := c.toNat_lt
  have h1 := (a ^^^ b).toNat_lt
  rw [u8_xor_nat _ _ (by omega) (by omega), ← UInt8.toNat_xor, u8_xor_nat _ _ (by omega) (by omega), UInt8.toNat_xor, UInt8.toNat_xor, UInt8.toNat_xor]
set_option maxRecDepth 100000 in
set_option maxHeartbeats 4000000 in
theorem pieces_short (a b c : ByteArray) (ha : a.size ≤ 2000) (hb : b.size ≤ 2000) (hc : c.size ≤ 2000) (w : World) (hT : TabAt w) :
    Calls Tryd.prog 8 #[.string a, .string b, .string c] w fun e w' => e = .returned (.bool true) ∧ Below w.heap.size w w' := by
  have T0 := Lib.hid hT
  have K0 := Lib.hid (Below.refl w.heap.size w)
  have hcb := str_bytes
  clear hT
  go_enter Tryd.func8, Tryd.ntmps8
  obtain ⟨n, hn⟩ : ∃ n, n = min a.size (min b.size c.size) := ⟨_, rfl⟩
  have HN := Lib.hid hn
  clear hn
  go_upto_region 3 with fail
  go_cut [7] (fun s7 wx => s7 = .int .i64 (n : Int) ∧ w = wx)
  case first =>
    go_wp2_with fail
    all_goals go_meet
    all_goals (case rel => exact ⟨by have := HN.out; simp; omega, rfl⟩)
  case rest =>
    obtain ⟨rfl, rfl⟩ := hcut
    have n1 : n ≤ a.size := by have := HN.out; omega
    have n2 : n ≤ b.size := by have := HN.out; omega
    have n3 : n ≤ c.size := by have := HN.out; omega
    go_wp2_with fail
    obtain ⟨al, hal⟩ : ∃ l, l = a.data.toList.take n := ⟨_, rfl⟩
    obtain ⟨bl, hbl⟩ : ∃ l, l = b.data.toList.take n := ⟨_, rfl⟩
    obtain ⟨cl, hcl⟩ : ∃ l, l = c.data.toList.take n := ⟨_, rfl⟩
    have la : al.length = n := by rw [hal, List.length_take]; simp; omega
    have lb : bl.length = n := by rw [hbl, List.length_take]; simp; omega
    have lc : cl.length = n := by rw [hcl, List.length_take]; simp; omega
    have B0 := Bts.of_str w (a.extract 0 n)
    rw [extract_list, List.drop_zero, ← hal] at B0
    have BB := Lib.hid B0
    have LA := Lib.hid la
    have LB := Lib.hid lb
    have LC := Lib.hid lc
    have HAL := Lib.hid hal
    have HBL := Lib.hid hbl
    have HCL := Lib.hid hcl
    clear hcb B0 la lb lc hal hbl hcl
    go_loopw [9] (fun i wr => ∃ j : Nat, j ≤ n ∧ i = .int .i64 j ∧ Bts w.heap.size (mix al bl cl j) wr ∧ Below w.heap.size w wr) (fun i _ => n - (intOf i).toNat)
    case atStart => exact ⟨0, by omega, rfl, by rw [mix_zero]; exact BB.out, bytesWorld_below w _⟩
    case round =>
      obtain ⟨j, hj, rfl, hbt, hbe⟩ := hrel
      by_cases hlt : j < n
      · have q1 : j < a.size := by omega
        have q2 : j < b.size := by omega
        have q3 : j < c.size := by omega
        have q1' : (j : Int) < a.size := by omega
        have q2' : (j : Int) < b.size := by omega
        have q3' : (j : Int) < c.size := by omega
        have q4' : (j : Int) < n := by omega
        have hml : (mix al bl cl j).length = n := by rw [mix_len _ _ _ _ (by rw [LA.out, LB.out]) (by rw [LA.out, LC.out]), LA.out]
        obtain ⟨x0, c0⟩ : ∃ x : UInt8, wr.cell? ⟨w.heap.size, j, none⟩ = some (.int .u8 x.toNat) := ⟨_, hbt.cell j (by omega)⟩
        have f0 := hbt.frozen j (by omega)
        have ex := xor3 a[j] b[j] c[j]
        have HBT := Lib.hid hbt
        have HBE := Lib.hid hbe
        have HML := Lib.hid hml
        clear hbt hbe hml
        go_wp2_with fail
        go_region
        all_goals go_wp2_with fail
        all_goals
          go_roundw
          case rel => exact ⟨j + 1, by omega, by go_num, HBT.out.set (c := a[j] ^^^ b[j] ^^^ c[j]) (by rw [HML.out]; exact hlt) (by
            rw [mix_succ _ _ _ _ (by rw [LA.out, LB.out]) (by rw [LA.out, LC.out]) (by rw [LA.out]; exact hlt)]
            congr 1
            simp only [HAL.out, HBL.out, HCL.out, List.getElem_take]; rfl) rfl, (HBE.out.setCell (p := ⟨w.heap.size, j, none⟩) (Nat.le_refl _) _).drew⟩
          case measure => simp [intOf]; omega
      · obtain rfl : j = n := by omega
        have he : mix al bl cl j = tri al bl cl := by
          have := mix_all al bl cl (by rw [LA.out, LB.out]) (by rw [LA.out, LC.out])
          rwa [LA.out] at this
        rw [he] at hbt
        have HX := Lib.hid hbt
        have HXL := Lib.hid hbt.lt
        have HXN : Hid (j = (tri al bl cl).length) := Lib.hid (by rw [tri_len _ _ _ (by rw [LA.out, LB.out]) (by rw [LA.out, LC.out]), LA.out])
        have J0 := Lib.hid (Below.refl wr.heap.size wr)
        have JW := Lib.hid hbe
        have TT := Lib.hid (T0.out.next hbe)
        obtain ⟨x, hx⟩ : ∃ x : ByteArray, x = bstr (tri al bl cl) := ⟨_, rfl⟩
        clear he hbe
        have G1 := Lib.hid (fun w hT => sum_any a w (by unfold maxLen; omega) hT)
        have G2 := Lib.hid (fun w hT => more_below (sm a.data.toList) b w (by unfold maxLen; omega) hT)
        have G3 := Lib.hid (fun w hT => sum_any (a ++ b) w (by unfold maxLen; simp; omega) hT)
        have G4 := Lib.hid (fun w hT => sum_any x w (by unfold maxLen; rw [hx, bstr_size, ← HXN.out]; omega) hT)
        have G5 := Lib.hid (fun w hT => sum_any (a.extract 0 j) w (by unfold maxLen; simp; omega) hT)
        have G6 := Lib.hid (fun w hT => sum_any (b.extract 0 j) w (by unfold maxLen; simp; omega) hT)
        have G7 := Lib.hid (fun w hT => sum_any (c.extract 0 j) w (by unfold maxLen; simp; omega) hT)
        have e2 : Crc.more (sm a.data.toList) b.data.toList = sm (a ++ b).data.toList := by
          unfold sm; rw [← Crc.more_append]; congr 1
        have e4 : sm x.data.toList = sm (a.extract 0 j).data.toList ^^^ sm (b.extract 0 j).data.toList ^^^ sm (c.extract 0 j).data.toList := by
          rw [hx, bstr_list, extract_list, extract_list, extract_list, List.drop_zero, List.drop_zero, List.drop_zero, ← HAL.out, ← HBL.out, ← HCL.out]
          exact Crc.more_three al bl cl (by rw [LA.out, LB.out]) (by rw [LA.out, LC.out]) 0#32
        have e5 : bits .xor .u32 (bits .xor .u32 (wi (sm (a.extract 0 j).data.toList)) (wi (sm (b.extract 0 j).data.toList))) (wi (sm (c.extract 0 j).data.toList)) = wi (sm x.data.toList) := by rw [bx, bx, e4]
        rw [e2] at G2
        obtain ⟨u1, hu1⟩ : ∃ u, u = wi (sm a.data.toList) := ⟨_, rfl⟩
        obtain ⟨u2, hu2⟩ : ∃ u, u = wi (sm (a ++ b).data.toList) := ⟨_, rfl⟩
        obtain ⟨u3, hu3⟩ : ∃ u, u = wi (sm x.data.toList) := ⟨_, rfl⟩
        obtain ⟨u4, hu4⟩ : ∃ u, u = wi (sm (a.extract 0 j).data.toList) := ⟨_, rfl⟩
        obtain ⟨u5, hu5⟩ : ∃ u, u = wi (sm (b.extract 0 j).data.toList) := ⟨_, rfl⟩
        obtain ⟨u6, hu6⟩ : ∃ u, u = wi (sm (c.extract 0 j).data.toList) := ⟨_, rfl⟩
        rw [← hu1] at G1 G2
        rw [← hu2] at G2 G3
        rw [← hu3] at G4 e5
        rw [← hu4] at G5 e5
        rw [← hu5] at G6 e5
        rw [← hu6] at G7 e5
        have C1 : Hid (∀ d os, Calls Tryd.prog 14 #[.string a] (grow (redrawn wr d) os) fun e w'' => e = .returned (.int .u32 u1) ∧ ∃ p : Regrown, w'' = grow (redrawn wr p.d) p.os) := Lib.hid (fun d os => Calls.regrown_of (G1.out _ (TT.out.next (below_regrown wr d os))))
        have C2 : Hid (∀ d os, Calls Tryd.prog 16 #[.int .u32 u1, .string b] (grow (redrawn wr d) os) fun e w'' => e = .returned (.int .u32 u2) ∧ ∃ p : Regrown, w'' = grow (redrawn wr p.d) p.os) := Lib.hid (fun d os => Calls.regrown_of (G2.out _ (TT.out.next (below_regrown wr d os))))
        have C3 : Hid (∀ d os, Calls Tryd.prog 14 #[.string (a ++ b)] (grow (redrawn wr d) os) fun e w'' => e = .returned (.int .u32 u2) ∧ ∃ p : Regrown, w'' = grow (redrawn wr p.d) p.os) := Lib.hid (fun d os => Calls.regrown_of (G3.out _ (TT.out.next (below_regrown wr d os))))
        have C4 : Hid (∀ d os, Calls Tryd.prog 14 #[.string x] (grow (redrawn wr d) os) fun e w'' => e = .returned (.int .u32 u3) ∧ ∃ p : Regrown, w'' = grow (redrawn wr p.d) p.os) := Lib.hid (fun d os => Calls.regrown_of (G4.out _ (TT.out.next (below_regrown wr d os))))
        have C5 : Hid (∀ d os, Calls Tryd.prog 14 #[.string (a.extract 0 j)] (grow (redrawn wr d) os) fun e w'' => e = .returned (.int .u32 u4) ∧ ∃ p : Regrown, w'' = grow (redrawn wr p.d) p.os) := Lib.hid (fun d os => Calls.regrown_of (G5.out _ (TT.out.next (below_regrown wr d os))))
        have C6 : Hid (∀ d os, Calls Tryd.prog 14 #[.string (b.extract 0 j)] (grow (redrawn wr d) os) fun e w'' => e = .returned (.int .u32 u5) ∧ ∃ p : Regrown, w'' = grow (redrawn wr p.d) p.os) := Lib.hid (fun d os => Calls.regrown_of (G6.out _ (TT.out.next (below_regrown wr d os))))
        have C7 : Hid (∀ d os, Calls Tryd.prog 14 #[.string (c.extract 0 j)] (grow (redrawn wr d) os) fun e w'' => e = .returned (.int .u32 u6) ∧ ∃ p : Regrown, w'' = grow (redrawn wr p.d) p.os) := Lib.hid (fun d os => Calls.regrown_of (G7.out _ (TT.out.next (below_regrown wr d os))))
        have C8 : Hid (∀ d os, Calls Tryd.prog 19 #[] (grow (redrawn wr d) os) fun e w'' => e = .returned (.bool true) ∧ ∃ p : Regrown, w'' = grow (redrawn wr p.d) p.os) := Lib.hid (fun d os => Calls.regrown_of (awake_any _ (TT.out.next (below_regrown wr d os))))
        have hb3 : ∀ d os, (convert 40 9 (.slice (some ⟨w.heap.size, 0, none⟩) j (grownCap w j 0 5))).run Tryd.prog (grow (redrawn wr d) os) = .ok (.string x) (grow (redrawn wr d) os) := fun d os => by rw [hx]; exact bytes_str (HX.out.next (below_regrown wr d os)) j _ HXN.out
        have AB : ¬ 9223372036854775807 < a.size + b.size := by omega
        have jn : (0 : Int) ≤ j := by omega
        have ja : (j : Int) ≤ a.size := by omega
        have jb : (j : Int) ≤ b.size := by omega
        have jc : (j : Int) ≤ c.size := by omega
        have HXX := Lib.hid hx
        clear hx
        clear e2 e4 hu1 hu2 hu3 hu4 hu5 hu6 hbt hlt hj
        go_wp2_with fail
        refine wp_region_quiet_below (by kernel_rfl) (by kernel_rfl) ?_
        repeat (quiet_step (first | (with_reducible exact C1.out _ _) | (with_reducible exact C2.out _ _) | (with_reducible exact C3.out _ _) | (with_reducible exact C4.out _ _) | (with_reducible exact C5.out _ _) | (with_reducible exact C6.out _ _) | (with_reducible exact C7.out _ _) | (with_reducible exact C8.out _ _)))
        refine wpQuiet_nil ?_
        intro _ hw'
        obtain ⟨⟨dq, osq⟩, hw''⟩ := hw'
        subst hw''
        go_wp2_with fail
        go_ret
        exact ⟨rfl, below_mono JW.out (below_regrown wr dq osq) (Nat.le_refl _)⟩
theorem crcPieces_walk (a b c : ByteArray) (w0 : a.size ≤ maxLen) (w1 : b.size ≤ maxLen) (w2 : c.size ≤ maxLen) (w : World) (hT : TabAt w) :
    Calls Tryd.prog 8 #[.string a, .string b, .string c] w fun e w' => e = .returned (.bool true) ∧ Below w.heap.size w w' := by
  by_cases h : a.size ≤ 2000 ∧ b.size ≤ 2000 ∧ c.size ≤ 2000
  · exact pieces_short a b c h.1 h.2.1 h.2.2 w hT
  · have T0 := Lib.hid hT
    have K0 := Lib.hid (Below.refl w.heap.size w)
    unfold maxLen at w0 w1 w2
    have e0 : decide (2000 < (a.size : Int)) = true ∨ decide (2000 < (a.size : Int)) = false ∧ decide (2000 < (b.size : Int)) = true ∨ decide (2000 < (a.size : Int)) = false ∧ decide (2000 < (b.size : Int)) = false ∧ decide (2000 < (c.size : Int)) = true := by
      simp; omega
    clear hT h
    rcases e0 with e0 | ⟨e0, e1⟩ | ⟨e0, e1, e2⟩
    all_goals
      go_enter Tryd.func8, Tryd.ntmps8
      go_wp2_with fail
      refine (awake_any _ T0.out).mono ?_
      rintro e w1 ⟨rfl, k1⟩
      have K1 := Lib.hid (below_mono K0.out k1 (Nat.le_refl _))
      have T1 := Lib.hid (T0.out.next K1.out)
      clear k1
      go_wp2_with fail
      go_ret
      exact ⟨rfl, K1.out⟩
end Go.Proofs.YtblelfonnelglaaDoor
