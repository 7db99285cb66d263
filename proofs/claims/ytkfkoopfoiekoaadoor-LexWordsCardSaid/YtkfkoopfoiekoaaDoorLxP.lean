/- The words of a text: the document's Words walked. Conditions: those written at each theorem. -/
import Derived.Test.YtkfkoopfoiekoaaDoorLxO
import Derived.Deep.RegionHeld3
import Derived.Deep.AppendLies
namespace Go.Proofs.YtkfkoopfoiekoaaDoor
open Go.RowKit Go.PlainAid
set_option linter.unusedVariables false
set_option linter.unusedSimpArgs false
theorem dy_head {c : UInt8} {r : List UInt8} {n : Int} (h : dy (c :: r) = some n) : isD (c.toNat : Int) = true := by
  have hl := dy_size h
  unfold dy at h
  split at h
  · cases h
  · obtain ⟨y, m, d, _, hs⟩ := pd_len h
    have h0 : bt ⟨((c :: r).take 10).toArray⟩ 0 = (c.toNat : Int) := bt_mk (by rw [List.getElem?_take_of_lt (by omega)]; rfl)
    rw [hs, dayStr_0] at h0
    simp only [isD, Bool.and_eq_true, decide_eq_true_eq]
    omega
theorem fs_day {l : List UInt8} {n : Int} (h : dy l = some n) : fs l = some (2, 10, n) := by
  cases l with
  | nil => have := dy_size h; simp at this
  | cons c r => unfold fs; dsimp only; rw [if_pos (dy_head h), h]
theorem fs_num {c : UInt8} {r : List UInt8} (h : dy (c :: r) = none) (hd : isD (c.toNat : Int) = true) : fs (c :: r) = match nu (c :: r) with
    | some n => some (1, rn isF (c :: r), n)
    | none => none := by
  unfold fs; dsimp only; rw [if_pos hd, h]
  cases nu (c :: r) <;> rfl
theorem fs_name {c : UInt8} {r : List UInt8} (hd : isD (c.toNat : Int) = false) (ha : isL (c.toNat : Int) = true) : fs (c :: r) = if nmd ((c :: r).take (rn isF (c :: r))) = true then some (3, rn isF (c :: r), 0) else none := by
  unfold fs; dsimp only; rw [if_neg (by rw [hd]; decide), if_pos ha]
theorem fs_sign {c : UInt8} {r : List UInt8} (hd : isD (c.toNat : Int) = false) (ha : isL (c.toNat : Int) = false) : fs (c :: r) = if sg (c :: r) = 0 then none else some (0, sg (c :: r), 0) := by
  have e : sg (c :: r) = if two (c :: r) = true then 2 else if sgn (c.toNat : Int) = true then 1 else 0 := rfl
  have e2 : fs (c :: r) = if two (c :: r) = true then some (0, 2, 0) else if sgn (c.toNat : Int) = true then some (0, 1, 0) else none := by
    unfold fs; dsimp only; rw [if_neg (by rw [hd]; decide), if_neg (by rw [ha]; decide)]
  by_cases h2 : two (c :: r) = true
  · rw [e2, e]; simp [h2]
  · by_cases h3 : sgn (c.toNat : Int) = true
    · rw [e2, e]; simp [h2, h3]
    · rw [e2, e]; simp [h2, h3]
theorem rn_in (p : Int → Bool) : ∀ (l : List UInt8), ∀ b ∈ l.take (rn p l), p (b.toNat : Int) = true
  | [], b, h => by simp at h
  | c :: l, b, h => by
    unfold rn at h
    split at h
    · rename_i hc
      rw [List.take_succ_cons] at h
      rcases List.mem_cons.1 h with rfl | h
      · exact hc
      · exact rn_in p l b h
    · simp at h
/-- What the document's Words answers. -/
def WrV (s : ByteArray) (B : Nat) (f : List Wd × Nat) (e : Ending) (w : World) : Prop :=
  if f.2 < s.size then e = .returned (.tuple #[.slice none 0 0, .int .i64 f.2])
  else ∃ va vc, e = .returned (.tuple #[.slice va f.1.length vc, .int .i64 (-1)]) ∧ w.ownsRow B 41 4 (.slice va f.1.length vc) f.1.length (wds f.1)
/-- append(l, x) as a step of a region that draws. -/
theorem step_appV {w : World} {ops : Array Oper} {o : Oper} {a : Act} {K : Act → World → Prop} {Q : Exit → Act → World → Prop} {E : Prop} (hgd : o.guard = none) (s x : Operand)
    (ho : o.op = .call { callee := .builtin .append, args := #[s, x], argTypes := #[27, 27] })
    (B : Nat) (v : Value) (n : Nat) (l : List Wd) (f : Wd) (hs : a.eval s = v) (hown : w.ownsRow B 41 4 v n (wds l)) (g : Nat) (hx : a.eval x = .slice (some ⟨g, 0, none⟩) 1 1)
    (hc : FourAt w ⟨g, 0, none⟩ f) (hl : n ≤ 100000) (hB : B ≤ w.heap.size)
    (h : ∀ v' w', w'.ownsRow B 41 4 v' (n + 1) (wds (l ++ [f])) → w.grownBy w' v.ownBlock → K (a.put o.dst v') w') :
    if Region.wanted o (yielded ops a.tmps) = true then Oper.wp Tryd.prog o a w K Q else E := by
  obtain ⟨i, hi, hz0, hz1, hz2⟩ := info_parts wordInfo2
  obtain ⟨c0, c1, c2, c3⟩ := hc
  refine step_append_lies w hgd s x 27 ho B 41 i (.agg #[.int .i64 0, .string ⟨#[]⟩, .int .i64 0, .int .i64 0]) 4 40 Tryd.underlying27 hi hz0 hz1 hz2 rfl (by decide) v n (wds l) hs hown ⟨g, 0, none⟩ 1 1 (wd f) hx rfl ?_ ?_ (by decide) ?_ ?_ hB _ rfl ?_
  · intro j u hj
    match j, hj with
    | 0, hj => simp [wd] at hj; subst hj; exact c0
    | 1, hj => simp [wd] at hj; subst hj; exact c1
    | 2, hj => simp [wd] at hj; subst hj; exact c2
    | 3, hj => simp [wd] at hj; subst hj; exact c3
  · intro u hu
    simp [wd] at hu
    rcases hu with rfl | rfl | rfl | rfl <;> rfl
  · unfold maxLen; omega
  · omega
  · intro g' cap w' h1 h2 _ _
    refine h _ w' ?_ h2
    rw [wds_snoc]
    exact h1
/-- A number as the document reads it. -/
def AmOk : Prop := ∀ (t : ByteArray), (∀ b ∈ t.data.toList, isF (b.toNat : Int) = true) → (∃ c r, t.data.toList = c :: r ∧ isD (c.toNat : Int) = true) → t.size ≤ 4000 → ∀ W, Calls Tryd.prog 20 #[.string t, .int .i64 0] W fun e w' => e = .returned (.tuple #[.int .i64 ((numT t.data.toList).getD 0), .bool (numT t.data.toList).isSome]) ∧ Below W.heap.size W w'
set_option maxRecDepth 100000 in
set_option maxHeartbeats 32000000 in
theorem rwords_any (s : ByteArray) (hs4 : s.size ≤ 4000) (hAm : AmOk) (w : World) : Calls Tryd.prog 9 #[.string s] w fun e w' => WrV s w.heap.size (fin s) e w' ∧ Below w.heap.size w w' := by
  have HZ := Lib.hid (str_len s)
  have HAM := Lib.hid hAm
  have hbt := get_bt s
  have HS4 : (s.size : Int) ≤ 4000 := by omega
  clear hAm hs4
  go_enter Tryd.func9, Tryd.ntmps9
  go_upto_region 3 with fail
  go_loopw [4, 5] (fun v av wr => ∃ j p : Nat, av = .int .i64 p ∧ (it s j).1.length = j ∧ p ≤ s.size ∧ (it s j).2 = p + bl false (s.data.toList.drop p) ∧ Hid (wr.ownsRow w.heap.size 41 4 v j (wds (it s j).1)) ∧ Hid (Below w.heap.size w wr)) (fun _ av _ => s.size - (intOf av).toNat)
  case atStart => exact ⟨0, 0, rfl, rfl, by omega, by simp [it], Lib.hid (World.ownsRow_nil w w.heap.size 41 4), Lib.hid (Below.refl _ _)⟩
  case round =>
    obtain ⟨j, p, rfl, hj, hp, hQ, HR, HB⟩ := hrel
    obtain ⟨va, vc, rfl⟩ := row_form HR.out
    obtain ⟨Q, hq⟩ : ∃ x, x = (it s j).2 := ⟨_, rfl⟩
    have hQs := it_at s j
    have hgo := it_go s j hj
    have HJ := Lib.hid hj
    have HQQ := Lib.hid hq
    rw [← hq] at hQ hQs hgo
    have hj4 : (j : Int) ≤ 4000 := by omega
    clear hq hj
    by_cases hlt : p < s.size
    case neg =>
      obtain rfl : p = s.size := by omega
      have HST : Hid (fin s = it s j) := Lib.hid (it_fin (by
        rw [← HQQ.out]; unfold stp
        rw [if_neg (by rw [hQ]; omega)]) HJ.out).symm
      have HQZ : Hid ((it s j).2 = s.size) := Lib.hid (by rw [← HQQ.out]; omega)
      clear hQ hQs hgo hp
      go_wp2_with fail
      go_ret2
      exact ⟨by unfold WrV; rw [HST.out, HQZ.out]; simp only [Nat.lt_irrefl, if_false]; exact ⟨va, vc, by rw [HJ.out]; rfl, by rw [HJ.out]; exact HR.out⟩, HB.out⟩
    have hlt2 : (p : Int) < (s.size : Int) := by omega
    obtain ⟨c, l, hd⟩ : ∃ c l, s.data.toList.drop p = c :: l := ⟨_, _, List.drop_eq_getElem_cons (by rw [HZ.out]; exact hlt)⟩
    obtain ⟨q1, _, q2⟩ := bt_list (l := []) hd
    have hc256 := c.toNat_lt
    by_cases hblank : bt s p = 32 ∨ bt s p = 9 ∨ bt s p = 10
    · have HN : Hid (Q = p + 1 + bl false (s.data.toList.drop (p + 1))) := Lib.hid (by
        rw [hQ, hd, q2]
        have : bl false (c :: l) = bl false l + 1 := by
          show (if bk false (c.toNat : Int) then bl (br false (c.toNat : Int)) l + 1 else 0) = _
          rw [← q1]
          rcases hblank with h | h | h <;> (rw [h]; rfl)
        omega)
      clear hd q1 q2 hQ hc256 hQs hgo
      rcases hblank with h | h | h <;> (
        go_wp2_with fail
        go_roundw
        case rel => exact ⟨j, p + 1, by go_num, HJ.out, by omega, by rw [← HQQ.out]; exact HN.out, HR, HB⟩
        case measure => (simp [intOf]; try omega))
    have hn32 : ¬ bt s p = 32 := fun h => hblank (.inl h)
    have hn9 : ¬ bt s p = 9 := fun h => hblank (.inr (.inl h))
    have hn10 : ¬ bt s p = 10 := fun h => hblank (.inr (.inr h))
    by_cases h35 : bt s p = 35
    · have HN : Hid (Q = p + bl true (s.data.toList.drop p)) := Lib.hid (by
        rw [hQ, hd]
        congr 1
        show (if bk false (c.toNat : Int) then bl (br false (c.toNat : Int)) l + 1 else 0) = (if bk true (c.toNat : Int) then bl (br true (c.toNat : Int)) l + 1 else 0)
        rw [← q1, h35]
        rfl)
      clear hd q1 q2 hQ hc256 hQs hgo hblank hn32 hn9
      go_upto_region 8 with fail
      go_loopw [5] (fun av wr2 => ∃ k : Nat, av = .int .i64 k ∧ p ≤ k ∧ k ≤ s.size ∧ Hid (Q = k + bl true (s.data.toList.drop k)) ∧ wr = wr2) (fun av _ => s.size - (intOf av).toNat)
      case atStart => exact ⟨p, rfl, Nat.le_refl _, hp, HN, rfl⟩
      case round =>
        obtain ⟨k, rfl, hk1, hk2, HK, rfl⟩ := hrel
        by_cases hks : k < s.size
        case neg =>
          obtain rfl : k = s.size := by omega
          have HE : Hid (Q = s.size + bl false (s.data.toList.drop s.size)) := Lib.hid (by have h := HK.out; rw [List.drop_of_length_le (by rw [HZ.out]; exact Nat.le_refl _)] at h ⊢; exact h)
          go_wp2_with fail
          go_roundw
          case rel => exact ⟨j, s.size, rfl, HJ.out, Nat.le_refl _, by rw [← HQQ.out]; exact HE.out, HR, HB⟩
          case measure => (simp [intOf]; try omega)
        have hks2 : (k : Int) < (s.size : Int) := by omega
        obtain ⟨d, m, hd⟩ : ∃ c l, s.data.toList.drop k = c :: l := ⟨_, _, List.drop_eq_getElem_cons (by rw [HZ.out]; exact hks)⟩
        obtain ⟨q1, _, q2⟩ := bt_list (l := []) hd
        by_cases hk10 : bt s k = 10
        · have hkp : p < k := by
            rcases Nat.lt_or_ge p k with h | h
            · exact h
            · obtain rfl : k = p := by omega
              exact absurd hk10 hn10
          have HE : Hid (Q = k + bl false (s.data.toList.drop k)) := Lib.hid (by
            rw [HK.out, hd]
            congr 1
            show (if bk true (d.toNat : Int) then bl (br true (d.toNat : Int)) m + 1 else 0) = (if bk false (d.toNat : Int) then bl (br false (d.toNat : Int)) m + 1 else 0)
            rw [← q1, hk10]
            rfl)
          clear hd q1 q2
          go_wp2_with fail
          go_roundw
          case rel => exact ⟨j, k, rfl, HJ.out, hk2, by rw [← HQQ.out]; exact HE.out, HR, HB⟩
          case measure => (simp [intOf]; try omega)
        · have HE : Hid (Q = k + 1 + bl true (s.data.toList.drop (k + 1))) := Lib.hid (by
            rw [HK.out, hd, q2]
            have : bl true (d :: m) = bl true m + 1 := by
              show (if bk true (d.toNat : Int) then bl (br true (d.toNat : Int)) m + 1 else 0) = _
              rw [← q1, if_pos (by simp [bk]), show br true (bt s k) = true from by simp [br, hk10]]
            omega)
          clear hd q1 q2
          go_wp2_with fail
          go_roundw
          case rel => exact ⟨k + 1, by go_num, by omega, by omega, HE, trivial⟩
          case measure => (simp [intOf]; try omega)
    have hbl0 : bl false (s.data.toList.drop p) = 0 := by
      rw [hd]
      show (if bk false (c.toNat : Int) then bl (br false (c.toNat : Int)) l + 1 else 0) = 0
      rw [← q1, if_neg (by simp [bk, hn10, h35, hn32, hn9])]
    have hQp : Q = p := by omega
    have HSTEP : Hid (∀ k len n, fs (s.data.toList.drop p) = some (k, len, n) → it s (j + 1) = ((it s j).1 ++ [⟨k, s.extract p (p + len), n, p⟩], p + len + bl false (s.data.toList.drop (p + len))) ∧ 1 ≤ len ∧ p + len ≤ s.size) := Lib.hid fun k len n hf => by
      have h1 := fs_len hf
      rw [List.length_drop, HZ.out] at h1
      refine ⟨?_, h1.1, by omega⟩
      rw [it_succ, ← HQQ.out, hQp, stp_of hlt hf]
    have HSTOP : Hid (fs (s.data.toList.drop p) = none → fin s = it s j ∧ (it s j).2 = p) := Lib.hid fun hf => by
      refine ⟨(it_fin (by rw [← HQQ.out, hQp]; unfold stp; rw [if_pos hlt, hf]) HJ.out).symm, by rw [← HQQ.out, hQp]⟩
    have HL := Lib.hid (And.intro hd q1)
    obtain ⟨m, hm⟩ : ∃ x, x = s.size - p := ⟨_, rfl⟩
    obtain ⟨p10, hp10⟩ : ∃ x, x = p + 10 := ⟨_, rfl⟩
    have hsub : IntKind.i64.wrap ((s.size : Int) - (p : Int)) = (m : Int) := (IntWalk.i64_in _ (by omega)).trans (by omega)
    have hadd : IntKind.i64.wrap ((p : Int) + 10) = (p10 : Int) := (IntWalk.i64_in _ (by omega)).trans (by omega)
    have HMP := Lib.hid (And.intro hm hp10)
    have hLl : (s.data.toList.drop p).length = m := by rw [List.length_drop, HZ.out, hm]
    have HPD : Hid (pd ⟨((s.data.toList.drop p).take 10).toArray⟩ = pd (s.extract p (p + 10))) := Lib.hid (by
      congr 1
      exact (str_mk (by rw [ext_list, List.drop_take]; congr 1; omega)).symm)
    have HLT := Lib.hid hlt
    clear hbl0 hQ hQp hblank hd q1 q2 hc256 hQs hgo hsub hadd
    have e32 : (bt s p == 32) = false := by simpa using hn32
    have e9 : (bt s p == 9) = false := by simpa using hn9
    have e10 : (bt s p == 10) = false := by simpa using hn10
    have e35 : (bt s p == 35) = false := by simpa using h35
    clear hn32 hn9 hn10 h35
    go_upto_region 10 with fail
    clear e32 e9 e10 e35
    have hsub : IntKind.i64.wrap ((s.size : Int) - (p : Int)) = (m : Int) := (IntWalk.i64_in _ (by omega)).trans (by omega)
    have hadd : IntKind.i64.wrap ((p : Int) + 10) = (p10 : Int) := (IntWalk.i64_in _ (by omega)).trans (by omega)
    have HHAD := Lib.hid hadd
    go_cut [72] (fun v72 wx => (∃ bv, v72 = .bool bv ∧ (bv = false → Hid (dy (s.data.toList.drop p) = none)) ∧ (bv = true → ∃ n, Hid (dy (s.data.toList.drop p) = some n) ∧ Hid (∀ W, Calls Tryd.prog 18 #[.string (s.extract p p10)] W fun e w' => e = .returned (.int .i64 n) ∧ Below W.heap.size W w'))) ∧ Hid (wx.ownsRow w.heap.size 41 4 (.slice va j vc) j (wds (it s j).1) ∧ Below w.heap.size w wx))
    case first =>
      by_cases h10 : (m : Int) < 10
      · have HDN : Hid (dy (s.data.toList.drop p) = none) := Lib.hid (by unfold dy; rw [if_pos (.inl (by omega))])
        have h10' : ((10 : Int) ≤ (m : Int)) = False := by simp only [eq_iff_iff, iff_false]; omega
        clear hLl
        go_wp2_with fail
        go_meet
        case rel => exact ⟨⟨_, rfl, fun _ => HDN, fun h => absurd h (by first | decide | (simp; omega))⟩, Lib.hid ⟨HR.out, HB.out⟩⟩
      have h10' : (10 : Int) ≤ (m : Int) := by omega
      have hpz : (p10 : Int) ≤ (s.size : Int) := by omega
      have hpp : (p : Int) ≤ (p10 : Int) := by omega
      have CP := Lib.hid (rdparse_any (s.extract p (p + 10)))
      obtain ⟨o, ho⟩ : ∃ x, x = pd (s.extract p (p + 10)) := ⟨_, rfl⟩
      rw [← ho] at CP HPD
      cases o with
      | none =>
        have HDN : Hid (dy (s.data.toList.drop p) = none) := Lib.hid (by unfold dy; split; rfl; exact HPD.out)
        clear hLl ho
        go_wp2_with (go_at_call 18; (with_reducible refine (CP.out _).mono ?_); rintro e w2 ⟨rfl, hb⟩; have HB2 := Lib.hid hb; clear hb)
        go_meet
        case rel => exact ⟨⟨_, rfl, fun _ => HDN, fun h => absurd h (by first | decide | (simp; omega))⟩, Lib.hid ⟨row_below HR.out HB2.out, below_mono HB.out HB2.out (Nat.le_refl _)⟩⟩
      | some n =>
        have hn0 : 0 ≤ n := (pd_range ho.symm).1
        have CP2 : Hid (∀ W, Calls Tryd.prog 18 #[.string (s.extract p (p + 10))] W fun e w' => e = .returned (.int .i64 n) ∧ Below W.heap.size W w') := CP
        clear CP
        by_cases hm10 : m = 10
        · have HDY : Hid (dy (s.data.toList.drop p) = some n) := Lib.hid (by
            unfold dy
            rw [if_neg, HPD.out]
            rw [hLl, List.drop_of_length_le (by omega)]
            simp [rn, hm10])
          have hm10x : ((m : Int) == 10) = true := by simp [hm10]
          clear hLl ho
          go_wp2_with ((go_at_call 18; (with_reducible refine (CP2.out _).mono ?_); rintro e w2 ⟨rfl, hb⟩; have HB2 := Lib.hid hb; clear hb))
          go_meet
          case rel => exact ⟨⟨_, rfl, fun h => absurd h (by first | decide | (simp; omega)), fun _ => ⟨n, HDY, Lib.hid (by rw [HMP.out.2]; exact CP2.out)⟩⟩, Lib.hid ⟨row_below HR.out HB2.out, below_mono HB.out HB2.out (Nat.le_refl _)⟩⟩
        · have hm10x : ((m : Int) == 10) = false := by simp; omega
          have hltp : p10 < s.size := by omega
          have hltp2 : (p10 : Int) < (s.size : Int) := by omega
          have CF := Lib.hid (part_any (bt s (p + 10)))
          obtain ⟨d, r2, hd2⟩ : ∃ c l, s.data.toList.drop p10 = c :: l := ⟨_, _, List.drop_eq_getElem_cons (by rw [HZ.out]; exact hltp)⟩
          obtain ⟨q3, _, _⟩ := bt_list (l := []) hd2
          rw [hp10] at q3
          have hdd : (s.data.toList.drop p).drop 10 = d :: r2 := by rw [List.drop_drop, ← hp10, hd2]
          obtain ⟨b, hb⟩ : ∃ b, b = isF (bt s (p + 10)) := ⟨_, rfl⟩
          rw [← hb] at CF
          cases b with
          | true =>
            have HDN : Hid (dy (s.data.toList.drop p) = none) := Lib.hid (by
              unfold dy
              rw [if_pos (.inr (by rw [hdd]; unfold rn; rw [if_pos (by rw [← q3]; exact hb.symm)]; omega))])
            clear hLl ho hd2 q3 hdd hb hltp
            go_wp2_with (first | (go_at_call 18; (with_reducible refine (CP2.out _).mono ?_); rintro e w2 ⟨rfl, hb⟩; have HB2 := Lib.hid hb; clear hb) | (go_at_call 19; (with_reducible refine (CF.out _).mono ?_); rintro e w3 ⟨rfl, rfl⟩))
            go_meet
            case rel => exact ⟨⟨_, rfl, fun _ => HDN, fun h => absurd h (by first | decide | (simp; omega))⟩, Lib.hid ⟨row_below HR.out HB2.out, below_mono HB.out HB2.out (Nat.le_refl _)⟩⟩
          | false =>
            have HDY : Hid (dy (s.data.toList.drop p) = some n) := Lib.hid (by
              unfold dy
              rw [if_neg, HPD.out]
              rw [hLl, hdd]
              unfold rn
              rw [if_neg (by rw [← q3, ← hb]; decide)]
              omega)
            clear hLl ho hd2 q3 hdd hb hltp
            go_wp2_with (first | (go_at_call 18; (with_reducible refine (CP2.out _).mono ?_); rintro e w2 ⟨rfl, hb⟩; have HB2 := Lib.hid hb; clear hb) | (go_at_call 19; (with_reducible refine (CF.out _).mono ?_); rintro e w3 ⟨rfl, rfl⟩))
            go_meet
            case rel => exact ⟨⟨_, rfl, fun h => absurd h (by first | decide | (simp; omega)), fun _ => ⟨n, HDY, Lib.hid (by rw [HMP.out.2]; exact CP2.out)⟩⟩, Lib.hid ⟨row_below HR.out HB2.out, below_mono HB.out HB2.out (Nat.le_refl _)⟩⟩
    case rest =>
      obtain ⟨⟨bv, rfl, HDN, HDY⟩, HRB⟩ := hcut
      clear hLl hsub hadd HPD HR HB
      cases bv with
      | true =>
        obtain ⟨n, HDY, CP2⟩ := HDY rfl
        clear HDN
        obtain ⟨g1, g2, g3⟩ := HSTEP.out 2 10 n (fs_day HDY.out)
        rw [← HMP.out.2] at g1 g3
        have HG1 := Lib.hid g1
        have hpz : (p10 : Int) ≤ (s.size : Int) := by omega
        have hpp : (p : Int) ≤ (p10 : Int) := by omega
        have hadd : IntKind.i64.wrap ((p : Int) + 10) = (p10 : Int) := (IntWalk.i64_in _ (by omega)).trans (by omega)
        have hp11 : p < p10 := by omega
        clear g1 g2 hp10 hm
        go_upto_region 11 with fail
        have HX2 := Lib.hid (And.intro ((row_below HRB.out.1 (Below.refl _ _).drew)) (HRB.out.2.trans (Below.refl _ _).drew))
        go_region_held3 (fun _ => True) (exact trivial) (first | (refine step_appV rfl _ _ rfl w.heap.size _ j (it s j).1 ⟨2, s.extract p p10, n, p⟩ rfl ((row_below HX2.out.1 HB4.out).alloc _) w4.heap.size rfl (four_cells (heap_alloc_new w4 (.cells #[.int .i64 2, .string (s.extract p p10), .int .i64 n, .int .i64 p] 41))) (by omega) (by have h1 := HX2.out.2.size; have h2 := HB4.out.size; simp; omega) ?_; intro v' w5 hown hgr; have HR5 := Lib.hid hown; have HG5 := Lib.hid hgr; clear hown hgr) | (go_at_call 18; (with_reducible refine (CP2.out _).mono ?_); rintro e w4 ⟨rfl, hb⟩; have HB4 := Lib.hid hb; clear hb))
        obtain ⟨va', vc', hv'⟩ := row_form HR5.out
        subst hv'
        have HB7 := Lib.hid (((below_mono HX2.out.2 HB4.out (Nat.le_refl _)).alloc (by have h1 := HX2.out.2.size; have h2 := HB4.out.size; omega) (.cells #[.int .i64 2, .string (s.extract p p10), .int .i64 n, .int .i64 p] 41)).grown HG5.out (by have h1 := HX2.out.2.size; have h2 := HB4.out.size; simp; omega) (fun g hg => ((row_below HX2.out.1 HB4.out).lt g hg).1))
        go_wp2_with fail
        go_roundw
        case rel => exact ⟨j + 1, p10, by first | rfl | go_num, by rw [HG1.out]; simp [HJ.out], g3, by rw [HG1.out], Lib.hid (by rw [HG1.out]; exact HR5.out), HB7⟩
        case measure => (simp [intOf]; omega)
      | false =>
        replace HDN := HDN rfl
        clear HDY hp10 hm HMP HHAD
        obtain ⟨N, hN⟩ : ∃ x, x = rn isF (s.data.toList.drop p) := ⟨_, rfl⟩
        have hNle : p + N ≤ s.size := by
          have := rn_le isF (s.data.toList.drop p)
          rw [List.length_drop, HZ.out] at this
          omega
        obtain ⟨q, hq⟩ : ∃ x, x = p + N := ⟨_, rfl⟩
        have HN := Lib.hid hN
        have HQ := Lib.hid hq
        have hqs : (q : Int) ≤ (s.size : Int) := by omega
        have hpq : (p : Int) ≤ (q : Int) := by omega
        clear hN hNle hq
        go_upto_block 4 with fail
        go_cut [7] (fun v wx => v = .int .i64 (q : Int) ∧ wc = wx)
        case first =>
          go_wp2_with fail
          go_loopw [7] (fun v wr2 => ∃ k : Nat, v = .int .i64 k ∧ p ≤ k ∧ k ≤ s.size ∧ Hid (k + rn isF (s.data.toList.drop k) = q) ∧ wc = wr2) (fun v _ => s.size - (intOf v).toNat)
          case atStart => exact ⟨p, rfl, Nat.le_refl _, hp, Lib.hid (by rw [HQ.out, HN.out]), rfl⟩
          case round =>
            obtain ⟨k, rfl, hk1, hk2, HK, rfl⟩ := hrel
            by_cases hks : k < s.size
            case neg =>
              obtain rfl : k = s.size := by omega
              have hE : s.size = q := by have h := HK.out; rw [List.drop_of_length_le (by rw [HZ.out]; exact Nat.le_refl _)] at h; exact h
              have HE := Lib.hid hE
              clear hE
              go_wp2_with fail
              go_meet
              case rel => exact ⟨by rw [← HE.out], by trivial⟩
            have hks2 : (k : Int) < (s.size : Int) := by omega
            obtain ⟨d, r2, hd⟩ : ∃ c l, s.data.toList.drop k = c :: l := ⟨_, _, List.drop_eq_getElem_cons (by rw [HZ.out]; exact hks)⟩
            obtain ⟨q1, _, q2⟩ := bt_list (l := []) hd
            have CF := Lib.hid (part_any (bt s k))
            obtain ⟨b, hb⟩ : ∃ b, b = isF (bt s k) := ⟨_, rfl⟩
            rw [← hb] at CF
            cases b with
            | false =>
              have HE : Hid (k = q) := Lib.hid (by have h := HK.out; rw [hd] at h; unfold rn at h; rw [if_neg (by rw [← q1, ← hb]; decide)] at h; exact h)
              clear hd q1 q2 hb
              go_wp2_with (go_at_call 19; (with_reducible refine (CF.out _).mono ?_); rintro e w3 ⟨rfl, rfl⟩)
              go_meet
              case rel => exact ⟨by rw [← HE.out], by trivial⟩
            | true =>
              have HE : Hid (k + 1 + rn isF (s.data.toList.drop (k + 1)) = q) := Lib.hid (by have h := HK.out; rw [hd] at h; unfold rn at h; rw [if_pos (by rw [← q1, ← hb])] at h; rw [q2]; omega)
              clear hd q1 q2 hb
              go_wp2_with (go_at_call 19; (with_reducible refine (CF.out _).mono ?_); rintro e w3 ⟨rfl, rfl⟩)
              go_roundw
              case rel => exact ⟨k + 1, by go_num, by omega, by omega, HE, by trivial⟩
              case measure => (simp [intOf]; try omega)
        case rest =>
          obtain ⟨rfl, rfl⟩ := hcut
          have HTL : Hid ((s.extract p q).data.toList = (s.data.toList.drop p).take N) := Lib.hid (by rw [ext_list, List.drop_take, HQ.out]; congr 1; omega)
          have HTS : Hid ((s.extract p q).size = N) := Lib.hid (by rw [ByteArray.size_extract, HQ.out]; have := HQ.out; omega)
          go_upto_block 6 with fail
          obtain ⟨T, hT⟩ : ∃ x, x = s.extract p q := ⟨_, rfl⟩
          rw [← hT] at HTL HTS ⊢
          have HT : Hid (T = s.extract p (p + T.size)) := Lib.hid (by rw [HTS.out, ← HQ.out]; exact hT)
          clear hT
          go_cut [4, 8] (fun v4 v8 wx => ∃ (va' : Option Addr) (vc' : Nat) (t : ByteArray) (k n : Int), v4 = .slice va' (j + 1) vc' ∧ v8 = .string t ∧ Hid (fs (s.data.toList.drop p) = some (k, t.size, n)) ∧ Hid (t = s.extract p (p + t.size)) ∧ Hid (wx.ownsRow w.heap.size 41 4 (.slice va' (j + 1) vc') (j + 1) (wds ((it s j).1 ++ [⟨k, t, n, p⟩])) ∧ Below w.heap.size w wx))
          case first =>
            by_cases hdig : 48 ≤ bt s p ∧ bt s p ≤ 57
            · have hD : isD (c.toNat : Int) = true := by simp only [isD, Bool.and_eq_true, decide_eq_true_eq]; rw [← HL.out.2]; exact hdig
              have HF1 : Hid (fs (s.data.toList.drop p) = match nu (s.data.toList.drop p) with
                | some n => some (1, N, n)
                | none => none) := Lib.hid (by
                rw [HN.out]
                have hdn := HDN.out
                rw [HL.out.1] at hdn ⊢
                exact fs_num hdn hD)
              have HNU : Hid (numT T.data.toList = nu (s.data.toList.drop p)) := Lib.hid (by rw [HTL.out, HN.out]; rfl)
              have CA := Lib.hid (HAM.out T (fun b hb => rn_in isF _ b (by rw [HTL.out, HN.out] at hb; exact hb)) (by
                have h1 : 1 ≤ N := by rw [HN.out, HL.out.1]; exact rn_pos (by simp [isF, hD])
                refine ⟨c, l.take (N - 1), ?_, hD⟩
                rw [HTL.out, HL.out.1]
                obtain ⟨N', rfl⟩ : ∃ N', N = N' + 1 := ⟨N - 1, by omega⟩
                rfl) (by rw [HTS.out]; have := HQ.out; omega))
              rw [HNU.out] at CA
              obtain ⟨o, ho⟩ : ∃ o, o = nu (s.data.toList.drop p) := ⟨_, rfl⟩
              rw [← ho] at CA HF1
              obtain ⟨h48, h57⟩ := hdig
              clear ho hD HNU
              cases o with
              | none =>
                obtain ⟨g1, g2⟩ := HSTOP.out HF1.out
                have HG1 := Lib.hid g1
                have HG2 := Lib.hid g2
                clear g1 g2
                go_wp2_with (go_at_call 20; (with_reducible refine (CA.out _).mono ?_); rintro e w2 ⟨rfl, hb⟩; have HB2 := Lib.hid hb; clear hb)
                go_ret2
                exact ⟨by unfold WrV; rw [HG1.out, HG2.out, if_pos hlt]; rfl, (below_mono HRB.out.2 HB2.out (Nat.le_refl _))⟩
              | some n =>
                have HF2 : Hid (fs (s.data.toList.drop p) = some (1, T.size, n)) := Lib.hid (by rw [HTS.out]; exact HF1.out)
                clear HF1
                go_wp2_with (first | (go_at_call 20; (with_reducible refine (CA.out _).mono ?_); rintro e w2 ⟨rfl, hb⟩; have HB2 := Lib.hid hb; clear hb) | (at_builtin; refine wpList_appV rfl _ _ rfl w.heap.size _ j (it s j).1 ⟨1, T, n, p⟩ rfl ((row_below HRB.out.1 HB2.out).alloc _) w2.heap.size rfl (four_cells (heap_alloc_new w2 (.cells #[.int .i64 1, .string T, .int .i64 n, .int .i64 p] 41))) (by omega) (by have h1 := (below_mono HRB.out.2 HB2.out (Nat.le_refl _)).size; simp; omega) ?_; intro v' w5 hown hgr; have HR5 := Lib.hid hown; have HG5 := Lib.hid hgr; clear hown hgr))
                obtain ⟨va', vc', hv'⟩ := row_form HR5.out
                subst hv'
                have HB7 := Lib.hid (((below_mono HRB.out.2 HB2.out (Nat.le_refl _)).alloc (by have h1 := (below_mono HRB.out.2 HB2.out (Nat.le_refl _)).size; omega) (.cells #[.int .i64 1, .string T, .int .i64 n, .int .i64 p] 41)).grown HG5.out (by have h1 := (below_mono HRB.out.2 HB2.out (Nat.le_refl _)).size; simp; omega) (fun g hg => ((row_below HRB.out.1 HB2.out).lt g hg).1))
                go_wp2_with fail
                go_meet
                case rel => exact ⟨va', vc', T, 1, n, rfl, rfl, HF2, HT, Lib.hid ⟨HR5.out, HB7.out⟩⟩
            · have hD : isD (c.toNat : Int) = false := by
                rw [← HL.out.2]
                unfold isD
                rw [Bool.eq_false_iff]
                simpa using hdig
              have hdig2 : (¬ 48 ≤ bt s p) ∨ (48 ≤ bt s p ∧ ¬ bt s p ≤ 57) := by omega
              clear hdig
              obtain ⟨b, hb⟩ : ∃ b, b = isL (bt s p) := ⟨_, rfl⟩
              have CL := Lib.hid (rletter_any (bt s p))
              rw [← hb] at CL
              cases b with
              | true =>
                have HF1 : Hid (fs (s.data.toList.drop p) = if nmd T.data.toList = true then some (3, N, 0) else none) := Lib.hid (by
                  rw [HTL.out, HN.out, HL.out.1]
                  exact fs_name hD (by rw [← HL.out.2]; exact hb.symm))
                have CN := Lib.hid (rnamed_any T (by rw [HTS.out]; have := HQ.out; unfold maxLen; omega))
                obtain ⟨o, ho⟩ : ∃ o, o = nmd T.data.toList := ⟨_, rfl⟩
                rw [← ho] at CN HF1
                clear ho hD hb
                cases o with
                | false =>
                  rcases hdig2 with h48 | ⟨h48, h57⟩ <;> (
                  obtain ⟨g1, g2⟩ := HSTOP.out (HF1.out.trans (by simp))
                  have HG1 := Lib.hid g1
                  have HG2 := Lib.hid g2
                  clear g1 g2
                  go_wp2_with (first | (go_at_call 15; (with_reducible refine (CL.out _).mono ?_); rintro e w3 ⟨rfl, rfl⟩) | (go_at_call 13; (with_reducible refine (CN.out _).mono ?_); rintro e w3 ⟨rfl, rfl⟩))
                  go_ret2
                  exact ⟨by unfold WrV; rw [HG1.out, HG2.out, if_pos hlt]; rfl, HRB.out.2⟩)
                | true =>
                  have HF2 : Hid (fs (s.data.toList.drop p) = some (3, T.size, 0)) := Lib.hid (by rw [HTS.out]; exact HF1.out.trans (by simp))
                  clear HF1
                  rcases hdig2 with h48 | ⟨h48, h57⟩ <;> (
                  go_wp2_with (first | (go_at_call 15; (with_reducible refine (CL.out _).mono ?_); rintro e w3 ⟨rfl, rfl⟩) | (go_at_call 13; (with_reducible refine (CN.out _).mono ?_); rintro e w3 ⟨rfl, rfl⟩) | (at_builtin; refine wpList_appV rfl _ _ rfl w.heap.size _ j (it s j).1 ⟨3, T, 0, p⟩ rfl (HRB.out.1.alloc _) wc.heap.size rfl (four_cells (heap_alloc_new wc (.cells #[.int .i64 3, .string T, .int .i64 0, .int .i64 p] 41))) (by omega) (by have h1 := HRB.out.2.size; simp; omega) ?_; intro v' w5 hown hgr; have HR5 := Lib.hid hown; have HG5 := Lib.hid hgr; clear hown hgr))
                  obtain ⟨va', vc', hv'⟩ := row_form HR5.out
                  subst hv'
                  have HB7 := Lib.hid ((HRB.out.2.alloc (by have h1 := HRB.out.2.size; omega) (.cells #[.int .i64 3, .string T, .int .i64 0, .int .i64 p] 41)).grown HG5.out (by have h1 := HRB.out.2.size; simp; omega) (fun g hg => (HRB.out.1.lt g hg).1))
                  go_wp2_with fail
                  go_meet
                  case rel => exact ⟨va', vc', T, 3, 0, rfl, rfl, HF2, HT, Lib.hid ⟨HR5.out, HB7.out⟩⟩)
              | false =>
                have HF1 : Hid (fs (s.data.toList.drop p) = if sg (s.data.toList.drop p) = 0 then none else some (0, sg (s.data.toList.drop p), 0)) := Lib.hid (by
                  rw [HL.out.1]
                  exact fs_sign hD (by rw [← HL.out.2]; exact hb.symm))
                have hRL : (s.extract p s.size).data.toList = s.data.toList.drop p := by rw [ext_list, List.take_of_length_le (by rw [HZ.out]; exact Nat.le_refl _)]
                have hRS : (s.extract p s.size).size = s.size - p := by rw [ByteArray.size_extract]; omega
                have CS := Lib.hid (rsign_any (s.extract p s.size) (by omega) (by omega))
                rw [hRL] at CS
                obtain ⟨G, hG⟩ : ∃ x, x = sg (s.data.toList.drop p) := ⟨_, rfl⟩
                rw [← hG] at CS HF1
                clear hD hb hG hRS
                by_cases hG0 : G = 0
                · subst hG0
                  have ht0 : (s.extract p s.size).extract 0 0 = ⟨#[]⟩ := by apply ByteArray.ext; simp
                  rw [ht0] at CS
                  clear ht0 hRL
                  rcases hdig2 with h48 | ⟨h48, h57⟩ <;> (
                  obtain ⟨g1, g2⟩ := HSTOP.out (HF1.out.trans (by simp))
                  have HG1 := Lib.hid g1
                  have HG2 := Lib.hid g2
                  clear g1 g2
                  go_wp2_with (first | (go_at_call 15; (with_reducible refine (CL.out _).mono ?_); rintro e w3 ⟨rfl, rfl⟩) | (go_at_call 21; (with_reducible refine (CS.out _).mono ?_); rintro e w2 ⟨rfl, hb⟩; have HB2 := Lib.hid hb; clear hb))
                  go_ret2
                  exact ⟨by unfold WrV; rw [HG1.out, HG2.out, if_pos hlt]; rfl, (below_mono HRB.out.2 HB2.out (Nat.le_refl _))⟩)
                · have hF2 := HF1.out
                  rw [if_neg hG0] at hF2
                  have hGl := (fs_len hF2).2
                  rw [List.length_drop, HZ.out] at hGl
                  obtain ⟨t, ht⟩ : ∃ x, x = (s.extract p s.size).extract 0 G := ⟨_, rfl⟩
                  rw [← ht] at CS
                  have hts : t.size = G := by rw [ht, ByteArray.size_extract, ByteArray.size_extract]; omega
                  have htl : t.data.toList = (s.extract p (p + G)).data.toList := by rw [ht, ext_list, hRL, ext_list, List.drop_zero, List.drop_take]; congr 1; omega
                  have HTX : Hid (t = s.extract p (p + t.size)) := Lib.hid (by rw [hts]; exact (str_mk htl).trans (str_mk rfl).symm)
                  have HF2 : Hid (fs (s.data.toList.drop p) = some (0, t.size, 0)) := Lib.hid (by rw [hts]; exact hF2)
                  have hne := isEmpty_false (s := t) (by omega)
                  clear hF2 hGl ht hts htl hRL HF1 hG0
                  rcases hdig2 with h48 | ⟨h48, h57⟩ <;> (
                  go_wp2_with (first | (go_at_call 15; (with_reducible refine (CL.out _).mono ?_); rintro e w3 ⟨rfl, rfl⟩) | (go_at_call 21; (with_reducible refine (CS.out _).mono ?_); rintro e w2 ⟨rfl, hb⟩; have HB2 := Lib.hid hb; clear hb) | (at_builtin; refine wpList_appV rfl _ _ rfl w.heap.size _ j (it s j).1 ⟨0, t, 0, p⟩ rfl ((row_below HRB.out.1 HB2.out).alloc _) w2.heap.size rfl (four_cells (heap_alloc_new w2 (.cells #[.int .i64 0, .string t, .int .i64 0, .int .i64 p] 41))) (by omega) (by have h1 := (below_mono HRB.out.2 HB2.out (Nat.le_refl _)).size; simp; omega) ?_; intro v' w5 hown hgr; have HR5 := Lib.hid hown; have HG5 := Lib.hid hgr; clear hown hgr))
                  obtain ⟨va', vc', hv'⟩ := row_form HR5.out
                  subst hv'
                  have HB7 := Lib.hid (((below_mono HRB.out.2 HB2.out (Nat.le_refl _)).alloc (by have h1 := (below_mono HRB.out.2 HB2.out (Nat.le_refl _)).size; omega) (.cells #[.int .i64 0, .string t, .int .i64 0, .int .i64 p] 41)).grown HG5.out (by have h1 := (below_mono HRB.out.2 HB2.out (Nat.le_refl _)).size; simp; omega) (fun g hg => ((row_below HRB.out.1 HB2.out).lt g hg).1))
                  go_wp2_with fail
                  go_meet
                  case rel => exact ⟨va', vc', t, 0, 0, rfl, rfl, HF2, HTX, Lib.hid ⟨HR5.out, HB7.out⟩⟩)
          case rest =>
            obtain ⟨va', vc', t, k, n, rfl, rfl, HF, HTX, HRB2⟩ := hcut
            obtain ⟨g1, g2, g3⟩ := HSTEP.out k t.size n HF.out
            rw [← HTX.out] at g1
            have HG1 := Lib.hid g1
            clear g1
            have hadd : IntKind.i64.wrap ((p : Int) + (t.size : Int)) = ((p + t.size : Nat) : Int) := (IntWalk.i64_in _ (by omega)).trans (by omega)
            go_wp2_with fail
            go_roundw
            case rel => exact ⟨j + 1, p + t.size, by first | rfl | go_num, by rw [HG1.out]; simp [HJ.out], g3, by rw [HG1.out], Lib.hid (by rw [HG1.out]; exact HRB2.out.1), Lib.hid HRB2.out.2⟩
            case measure => (simp [intOf]; try omega)
end Go.Proofs.YtkfkoopfoiekoaaDoor
