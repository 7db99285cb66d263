/- The law CrcBack walked: texts, framed one behind the other, are told as they were; cut off within a frame all ahead of it are told, and that the next one is short. No conditions but that the table stands there. -/
import Derived.Test.YtblelfonnelglaaDoorLCrc3
namespace Go.Proofs.YtblelfonnelglaaDoor
open Go.RowKit
set_option linter.unusedSimpArgs false
set_option linter.unusedVariables false

/-- Frames, one behind the other. -/
def frms : List (List UInt8) → List UInt8
  | [] => []
  | x :: l => frm x ++ frms l
theorem frms_snoc (l : List (List UInt8)) (x : List UInt8) : frms (l ++ [x]) = frms l ++ frm x := by
  induction l with
  | nil => simp [frms]
  | cons y l ih => simp [frms, ih]
theorem opn_cut (x : List UInt8) (hx : x.length ≤ 131072) (k : Nat) (hk : k < x.length + 12) : (opn ((frm x).take k)).2.2 = 1 := by
  have hF := frm_len x
  obtain ⟨f1, f2, f3, f4⟩ : 8 ≤ (frm x).length ∧ ((frm x).drop 4).take 4 = le4 (sm ((frm x).take 4)) ∧ val ((frm x).take 4) = x.length ∧ True := by
    have e1 : frm x = fx x.length 4 ++ (le4 (sm (fx x.length 4)) ++ (x ++ le4 (sm x))) := by unfold frm; simp only [List.append_assoc]
    have h4 : (frm x).take 4 = fx x.length 4 := by
      rw [e1, List.take_append_of_le_length (by rw [fx_length]; omega), List.take_of_length_le (by rw [fx_length]; omega)]
    refine ⟨by omega, ?_, by rw [h4, val_fx]; omega, trivial⟩
    rw [h4, e1, List.drop_append_of_le_length (by rw [fx_length]; omega), List.drop_of_length_le (by rw [fx_length]; omega), List.nil_append, List.take_append_of_le_length (by rw [le4_len]; omega), List.take_of_length_le (by rw [le4_len]; omega)]
  have hl : ((frm x).take k).length = k := by rw [List.length_take]; omega
  unfold opn
  by_cases h8 : k < 8
  · rw [if_pos (by omega)]
  · have t4 : ((frm x).take k).take 4 = (frm x).take 4 := by rw [List.take_take]; congr 1; omega
    have d4 : (((frm x).take k).drop 4).take 4 = ((frm x).drop 4).take 4 := by
      rw [List.drop_take, List.take_take]; congr 1; omega
    rw [if_neg (by omega), t4, f3, if_neg (by rw [d4, f2]; intro e; rcases e with e | e; exact e rfl; omega), if_pos (by omega)]
theorem alls_cut (ls : List (List UInt8)) : ∀ (f k : Nat), (∀ x ∈ ls, x.length ≤ 131072) → k ≤ (frms ls).length → k ≤ f →
    ∃ j z, j ≤ ls.length ∧ allF f ((frms ls).take k) = (ls.take j, (frms (ls.take j)).length, z) ∧ ((frms (ls.take j)).length = k ∧ z = 0 ∨ (frms (ls.take j)).length < k ∧ z = 1) := by
  induction ls with
  | nil =>
    intro f k _ hk _
    have : k = 0 := by simpa [frms] using hk
    subst this
    exact ⟨0, 0, by simp, by simp [frms, allF_nil], Or.inl ⟨by simp [frms], rfl⟩⟩
  | cons x ls ih =>
    intro f k hx hk hf
    have hxl := hx x (by simp)
    have hF := frm_len x
    simp only [frms, List.length_append] at hk
    by_cases h0 : k = 0
    · subst h0
      exact ⟨0, 0, by simp, by simp [frms, allF_nil], Or.inl ⟨by simp [frms], rfl⟩⟩
    · obtain ⟨f, rfl⟩ : ∃ g, f = g + 1 := ⟨f - 1, by omega⟩
      by_cases hc : k < x.length + 12
      · have e : (frms (x :: ls)).take k = (frm x).take k := by rw [frms, List.take_append_of_le_length (by omega)]
        have hz := opn_cut x hxl k hc
        have hne : (frm x).take k ≠ [] := by intro e; have := congrArg List.length e; rw [List.length_take, hF, List.length_nil] at this; omega
        refine ⟨0, 1, by simp, ?_, Or.inr ⟨by simp [frms]; omega, rfl⟩⟩
        rw [e]
        simp [allF, hne, hz, frms]
      · have e : (frms (x :: ls)).take k = frm x ++ (frms ls).take (k - (x.length + 12)) := by
          rw [frms, List.take_append, List.take_of_length_le (by omega), hF]
        have ho := opn_frm x ((frms ls).take (k - (x.length + 12))) hxl
        have hne : frm x ++ (frms ls).take (k - (x.length + 12)) ≠ [] := by intro e; have := congrArg List.length e; rw [List.length_append, hF, List.length_nil] at this; omega
        obtain ⟨j, z, h1, h2, h3⟩ := ih f (k - (x.length + 12)) (fun y hy => hx y (by simp [hy])) (by omega) (by omega)
        refine ⟨j + 1, z, by simp; omega, ?_, ?_⟩
        · rw [e]
          have hd : (frm x ++ (frms ls).take (k - (x.length + 12))).drop (x.length + 12) = (frms ls).take (k - (x.length + 12)) := by
            rw [← hF, List.drop_left]
          simp only [allF, hne, if_false, ho, hd, h2]
          simp [frms, hF]
        · simp only [List.take_succ_cons, frms, List.length_append, hF]
          rcases h3 with ⟨a, b⟩ | ⟨a, b⟩
          · exact Or.inl ⟨by omega, b⟩
          · exact Or.inr ⟨by omega, b⟩
def lists (xs : List ByteArray) : List (List UInt8) := xs.map fun x => x.data.toList
theorem lists_take (xs : List ByteArray) (j : Nat) : ((lists xs).take j).map bstr = xs.take j := by
  unfold lists
  rw [← List.map_take, List.map_map]
  have : (bstr ∘ fun x : ByteArray => x.data.toList) = id := by funext x; exact bstr_of x
  rw [this, List.map_id]
theorem SAt.take {B : Nat} {ao : Option Addr} {xs : List ByteArray} {w : World} (h : SAt B ao (strs xs) w) (j : Nat) : SAt B ao (strs (xs.take j)) w := by
  have hl : (strs (xs.take j)).length ≤ (strs xs).length := by simp [strs]; omega
  refine ⟨fun hp => h.1 (by omega), fun a e hp => ⟨(h.2 a e (by omega)).1, fun i u hu => (h.2 a e (by omega)).2 i u ?_⟩⟩
  unfold strs at hu ⊢
  rw [List.map_take, List.getElem?_take] at hu
  split at hu
  · exact hu
  · cases hu
theorem frms_len (xs : List ByteArray) (h : ∀ x ∈ xs, x.size ≤ 300) : (frms (lists xs)).length ≤ 312 * xs.length ∧ 12 * xs.length ≤ (frms (lists xs)).length := by
  induction xs with
  | nil => simp [lists, frms]
  | cons x xs ih =>
    have := ih (fun y hy => h y (by simp [hy]))
    have hx := h x (by simp)
    have hF := frm_len x.data.toList
    have hl : x.data.toList.length = x.size := by simp
    have e : frms (lists (x :: xs)) = frm x.data.toList ++ frms (lists xs) := rfl
    rw [e, List.length_append, hF, hl]
    simp only [List.length_cons]; omega
theorem umodB (a : Int) (n : Nat) (h : 1 ≤ n) : ∃ k : Nat, (IntKind.u64.wrap a).tmod (n : Int) = (k : Int) ∧ k < n := by
  have hp : 0 ≤ IntKind.u64.wrap a := by rw [IntKind.wrap_u64]; omega
  obtain ⟨A, hA⟩ := Int.eq_ofNat_of_zero_le hp
  rw [hA]
  exact ⟨A % n, by rw [Int.tmod_eq_emod_of_nonneg (by omega)]; rfl, Nat.mod_lt _ (by omega)⟩
theorem allF_whole (ls : List (List UInt8)) : ∀ f, (∀ x ∈ ls, x.length ≤ 131072) → (frms ls).length ≤ f → allF f (frms ls) = (ls, (frms ls).length, 0) := by
  induction ls with
  | nil => intro f _ _; simp [frms, allF_nil]
  | cons x ls ih =>
    intro f hx hf
    have hxl := hx x (by simp)
    have hF := frm_len x
    simp only [frms, List.length_append, hF] at hf
    obtain ⟨f, rfl⟩ : ∃ g, f = g + 1 := ⟨f - 1, by omega⟩
    have ho := opn_frm x (frms ls) hxl
    have hne : frm x ++ frms ls ≠ [] := by intro e; have := congrArg List.length e; rw [List.length_append, hF, List.length_nil] at this; omega
    have hd : (frm x ++ frms ls).drop (x.length + 12) = frms ls := by rw [← hF, List.drop_left]
    have h2 := ih f (fun y hy => hx y (by simp [hy])) (by omega)
    simp only [frms, allF, hne, if_false, ho, hd, h2]
    simp [hF]
theorem alls_whole (ls : List (List UInt8)) (h : ∀ x ∈ ls, x.length ≤ 131072) : alls (frms ls) = (ls, (frms ls).length, 0) := allF_whole ls _ h (Nat.le_refl _)
set_option maxRecDepth 100000 in
set_option maxHeartbeats 4000000 in
theorem back_long (ao : Option Addr) (cap : Nat) (xs : List ByteArray) (at_ : Int) (h1 : 1 ≤ xs.length) (h2 : xs.length ≤ 20) (hcap : xs.length ≤ cap) (hcm : cap ≤ maxLen) (hx : ∀ x ∈ xs, x.size ≤ maxLen) (w : World) (hT : TabAt w) (hS : SAt w.heap.size ao (strs xs) w) :
    Calls Tryd.prog 9 #[.slice ao xs.length cap, .int .i64 at_] w fun e w' => e = .returned (.bool true) ∧ Below w.heap.size w w' := by
  have T0 := Lib.hid hT
  have K0 := Lib.hid (Below.refl w.heap.size w)
  obtain ⟨a, rfl⟩ := hS.1 (by simp [strs]; omega)
  obtain ⟨n, hn⟩ : ∃ n, n = xs.length := ⟨_, rfl⟩
  have HS := Lib.hid hS
  have HN := Lib.hid hn
  have HX := Lib.hid hx
  rw [← hn] at h1 h2 hcap ⊢
  unfold maxLen at hcm
  have z0 : ((n : Int) == 0) = false := by rw [beq_eq_false_iff_ne]; omega
  have z1 : decide (20 < (n : Int)) = false := by simp; omega
  clear hT hS hn hx
  go_enter Tryd.func9, Tryd.ntmps9
  go_wp2_with fail
  clear z0 z1
  go_loopw [5, 6] (fun al i wr => ∃ (k : Nat) (st : ByteArray), k ≤ n ∧ i = .int .i64 k ∧ al = .string st ∧ Hid (st = bstr (frms (lists (xs.take k)))) ∧ Hid (∀ x ∈ xs.take k, x.size ≤ 300) ∧ Below w.heap.size w wr) (fun _ i _ => n - (intOf i).toNat)
  case atStart => exact ⟨0, ⟨#[]⟩, by omega, rfl, rfl, Lib.hid (by simp [lists, frms]), Lib.hid (by simp), K0.out⟩
  case round =>
    obtain ⟨k, st, hk, rfl, rfl, HST, HSZ, hbe⟩ := hrel
    by_cases hlt : k < n
    · have hkx : k < xs.length := by rw [← HN.out]; exact hlt
      have hst : st.size ≤ 6240 := by
        have := (frms_len (xs.take k) HSZ.out).1
        rw [HST.out, bstr_size]
        rw [List.length_take] at this; omega
      obtain ⟨x, hxx⟩ : ∃ x, x = xs[k] := ⟨_, rfl⟩
      have c0 : wr.cell? (a.add k) = some (.string x) := by
        rw [hxx]
        exact ((HS.out.under hbe).2 a rfl (by simp [strs]; omega)).2 k _ (by simp [strs, hkx])
      have hxm : x.size ≤ maxLen := by rw [hxx]; exact HX.out _ (List.getElem_mem _)
      have hki : (k : Int) < (n : Int) := by omega
      have T1 := Lib.hid (T0.out.next hbe)
      have K1 := Lib.hid hbe
      have HXX := Lib.hid hxx
      unfold maxLen at hxm
      clear hbe hxx
      by_cases hx3 : x.size ≤ 300
      · have G := Lib.hid (frame_any x wr (by omega) T1.out)
        obtain ⟨f, hf⟩ : ∃ f, f = bstr (frm x.data.toList) := ⟨_, rfl⟩
        have fz : f.size ≤ 312 := by rw [hf, bstr_size, frm_len]; simp; omega
        rw [← hf] at G
        have HF := Lib.hid hf
        clear hf
        go_wp2_with fail
        refine (G.out).mono ?_
        rintro e w2 ⟨rfl, k2⟩
        have K2 := Lib.hid (below_mono K1.out k2 (Nat.le_refl _))
        clear k2
        go_wp2_with fail
        go_roundw
        case rel => exact ⟨k + 1, _, by omega, by go_num, rfl, Lib.hid (by
          rw [List.take_succ_eq_append_getElem hkx]
          have : lists (xs.take k ++ [xs[k]]) = lists (xs.take k) ++ [x.data.toList] := by rw [HXX.out]; exact List.map_append
          rw [this, frms_snoc, ← bstr_app, ← HST.out, ← HF.out]), Lib.hid (by
          rw [List.take_succ_eq_append_getElem hkx]
          intro y hy
          rcases List.mem_append.1 hy with hy | hy
          · exact HSZ.out y hy
          · simp at hy; rw [hy, ← HXX.out]; exact hx3), K2.out⟩
        case measure => simp [intOf]; omega
      · go_wp2_with fail
        refine (awake_any _ T1.out).mono ?_
        rintro e w2 ⟨rfl, k2⟩
        have K2 := Lib.hid (below_mono K1.out k2 (Nat.le_refl _))
        clear k2
        go_wp2_with fail
        go_ret
        exact ⟨rfl, K2.out⟩
    · obtain rfl : k = n := by omega
      have hall : xs.take k = xs := List.take_of_length_le (by rw [← HN.out]; omega)
      have hst := HST.out
      have hsz := HSZ.out
      rw [hall] at hst hsz
      have hfl := frms_len xs hsz
      rw [← HN.out] at hfl
      have hstz : st.size = (frms (lists xs)).length := by rw [hst, bstr_size]
      obtain ⟨m, hm, hm1⟩ := umodB at_ st.size (by omega)
      have hxl : ∀ y ∈ lists xs, y.length ≤ 131072 := by
        intro y hy
        obtain ⟨x, hx, rfl⟩ := List.mem_map.1 hy
        have := hsz x hx
        simp; omega
      have hstl : st.data.toList = frms (lists xs) := by rw [hst, bstr_list]
      obtain ⟨j, y, b1, b2, b3⟩ := alls_cut (lists xs) ((frms (lists xs)).take m).length m hxl (by omega) (by rw [List.length_take]; omega)
      have hll : (lists xs).length = k := by rw [lists, List.length_map, ← HN.out]
      have A : alls st.data.toList = (lists xs, st.size, 0) := by
        rw [hstl, alls_whole _ hxl, hstz]
      obtain ⟨pre, hpre⟩ : ∃ p : ByteArray, p = st.extract 0 m := ⟨_, rfl⟩
      have hprel : pre.data.toList = (frms (lists xs)).take m := by rw [hpre, extract_list, List.drop_zero, hstl]
      have hprez : pre.size ≤ 6240 := by rw [hpre]; simp; omega
      have B : alls pre.data.toList = ((lists xs).take j, (frms ((lists xs).take j)).length, y) := by
        rw [hprel]; exact b2
      obtain ⟨to, hto⟩ : ∃ t, t = (frms ((lists xs).take j)).length := ⟨_, rfl⟩
      rw [← hto] at B b3
      have hjl : ((lists xs).take j).length = j := by rw [List.length_take]; omega
      have T1 := Lib.hid (T0.out.next hbe)
      have K1 := Lib.hid hbe
      have S1 := Lib.hid (HS.out.under hbe)
      have G1 := Lib.hid (all_any st wr (by omega) T1.out)
      have G2 := Lib.hid (fun w hT => all_any pre w (by omega) hT)
      unfold AllPost at G1 G2
      rw [A] at G1
      rw [B] at G2
      simp only [hll, hjl] at G1 G2
      rw [hpre] at G2
      have hbn : lists xs = lists xs := rfl
      have X1 : Hid (txts (lists xs) = strs xs) := Lib.hid (by
        unfold txts
        have := lists_take xs k
        rw [List.take_of_length_le (by rw [hll]; omega), List.take_of_length_le (by rw [← HN.out]; omega)] at this
        rw [this])
      have X2 : Hid (txts ((lists xs).take j) = strs (xs.take j)) := Lib.hid (by unfold txts; rw [lists_take])
      have hjk : j ≤ k := by omega
      have hjk' : (j : Int) ≤ (k : Int) := by omega
      have hjc : (j : Int) ≤ (cap : Int) := by omega
      have hst0 : ((st.size : Int) == 0) = false := by rw [beq_eq_false_iff_ne]; omega
      have hst1 : 1 ≤ st.size := by omega
      have hst2 : st.size ≤ 6240 := by omega
      have htm : to ≤ m := by omega
      have htm' : (to : Int) ≤ (m : Int) := by omega
      have hxj : Hid ((xs.take j).length = j) := Lib.hid (by rw [List.length_take, ← HN.out]; omega)
      have hty : Hid ((((to : Int) == (m : Int)) = true ∧ y = 0) ∨ (((to : Int) == (m : Int)) = false ∧ y = 1)) := Lib.hid (by
        rcases b3 with ⟨p1, p2⟩ | ⟨p1, p2⟩
        · left; exact ⟨by rw [beq_iff_eq]; omega, p2⟩
        · right; exact ⟨by rw [beq_eq_false_iff_ne]; omega, p2⟩)
      clear hall hst hsz hfl hstz hxl hstl b1 b2 b3 hll A hpre hprel hprez B hto hjl hbe hbn hlt hk HST HSZ
      go_wp2_with fail
      refine (G1.out).mono ?_
      rintro e w2 ⟨bo, cap2, rfl, s2, k2⟩
      have S2 := Lib.hid s2
      have K2 := Lib.hid (below_mono K1.out k2 (Nat.le_refl _))
      have T2 := Lib.hid (T0.out.next K2.out)
      clear s2 k2
      go_wp2_with fail
      refine (G2.out _ T2.out).mono ?_
      rintro e w3 ⟨co, cap3, rfl, s3, k3⟩
      have S3 := Lib.hid s3
      have S2' := Lib.hid ((S2.out.under k3).mono k3.size)
      have K3 := Lib.hid (below_mono K2.out k3 (Nat.le_refl _))
      have T3 := Lib.hid (T0.out.next K3.out)
      have SX := Lib.hid ((HS.out.under K3.out).mono K3.out.size)
      have G5 : Hid (Calls Tryd.prog 26 #[.slice bo k cap2, .slice (some a) k cap] w3 fun e w' => e = .returned (.bool true) ∧ ∃ m, w' = w3.drewN m) := Lib.hid (by
        have := sameS bo (some a) cap2 cap xs (by rw [← HN.out]; omega) w3 w3.heap.size (by rw [← X1.out]; exact S2'.out) SX.out
        rwa [← HN.out] at this)
      have G6 : Hid (∀ d, Calls Tryd.prog 26 #[.slice co j cap3, .slice (some a) j cap] (w3.drewN d) fun e w' => e = .returned (.bool true) ∧ ∃ m, w' = (w3.drewN d).drewN m) := Lib.hid (fun d => by
        have := sameS co (some a) cap3 cap (xs.take j) (by rw [hxj.out]; omega) (w3.drewN d) w3.heap.size (by rw [← X2.out]; exact S3.out) (SX.out.take j)
        rwa [hxj.out] at this)
      have TD : Hid (∀ d, TabAt (w3.drewN d)) := Lib.hid (fun _ => T3.out)
      clear s3 k3
      go_wp2_with fail
      refine (G5.out).mono ?_
      rintro e w4 ⟨rfl, d4, rfl⟩
      rcases hty.out with ⟨v1, rfl⟩ | ⟨v1, rfl⟩
      all_goals
        go_wp2_with fail
        refine (G6.out _).mono ?_
        rintro e w5 ⟨rfl, d5, rfl⟩
        go_wp2_with fail
        refine (awake_any _ (TD.out _)).mono ?_
        rintro e w6 ⟨rfl, k6⟩
        go_wp2_with fail
        go_ret
        exact ⟨rfl, below_mono (below_drewN K3.out _) k6 (Nat.le_refl _)⟩
theorem crcBack_walk (ao : Option Addr) (cap : Nat) (xs : List ByteArray) (at_ : Int) (hcap : xs.length ≤ cap) (hcm : cap ≤ maxLen) (hx : ∀ x ∈ xs, x.size ≤ maxLen) (w1 : (Lit.int .i64 at_).wf = true) (w : World) (hT : TabAt w) (hS : SAt w.heap.size ao (strs xs) w) :
    Calls Tryd.prog 9 #[.slice ao xs.length cap, .int .i64 at_] w fun e w' => e = .returned (.bool true) ∧ Below w.heap.size w w' := by
  by_cases h : 1 ≤ xs.length ∧ xs.length ≤ 20
  · exact back_long ao cap xs at_ h.1 h.2 hcap hcm hx w hT hS
  · have T0 := Lib.hid hT
    have K0 := Lib.hid (Below.refl w.heap.size w)
    obtain ⟨n, hn⟩ : ∃ n, n = xs.length := ⟨_, rfl⟩
    rw [← hn] at h hcap ⊢
    unfold maxLen at hcm
    have e0 : ((n : Int) == 0) = true ∨ ((n : Int) == 0) = false ∧ decide (20 < (n : Int)) = true := by
      by_cases hz : n = 0
      · left; rw [beq_iff_eq]; omega
      · right; exact ⟨by rw [beq_eq_false_iff_ne]; omega, by simp; omega⟩
    clear hT hS hn h hx
    rcases e0 with e0 | ⟨e0, e1⟩
    all_goals
      go_enter Tryd.func9, Tryd.ntmps9
      go_wp2_with fail
      refine (awake_any _ T0.out).mono ?_
      rintro e w1 ⟨rfl, k1⟩
      have K1 := Lib.hid (below_mono K0.out k1 (Nat.le_refl _))
      have T1 := Lib.hid (T0.out.next K1.out)
      clear k1
      go_wp2_with fail
      go_ret
      exact ⟨rfl, K1.out⟩
end Go.Proofs.YtblelfonnelglaaDoor
