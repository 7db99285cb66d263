/- Layer 22: Eval of any expression; the document's example. Conditions: those written at each theorem. -/
import Derived.Test.YtidldlhhmophjaaObC
import Derived.Test.YtidldlhhmophjaaCkD
namespace Go.Proofs.Ytidldlhhmophjaa
open Go.RowKit Go.PlainAid Go.Sort
set_option linter.unusedVariables false
set_option linter.unusedSimpArgs false
def Xp.evl (sn : ByteArray → Option Fx) (day : Int) (x : Xp) : Vl := if x.has = true then x.ev sn day else brkV
set_option maxRecDepth 100000 in
set_option maxHeartbeats 8000000 in
theorem evalOf_any {S R : Nat → Prop} (x : Xp) (bo : Option Addr) (k : Nat) (w : World) (hS : ∀ b, S b → b < w.heap.size) (hR : ∀ b, R b → b < w.heap.size) {P : Int → Int → Int → Prop} (hW : ∀ o a b, P o a b → ∀ w, Calls Try.prog 93 #[.int .i64 o, .int .i64 a, .int .i64 b] w fun e w' => e = .returned (vlV (wkV o a b)) ∧ Below w.heap.size w w') {F : List Fx} {fa : Option Addr} {fc : Nat} {day : Int} (hl : F.length ≤ 200)
    (hk : x.args.length ≤ k) (hx : ExL S w x.args bo) (hf : x.fit) (ht : x.thin) (hde : x.dep ≤ 900) (hok : x.has = true → x.wok P (fun s => seenF day s F) day) (hfx : FxA R fa F w) :
    Calls Try.prog 41 #[exV x bo k, .agg #[.int .i64 day, .slice fa F.length fc]] w fun e w' => e = .returned (vlV (x.evl (fun s => seenF day s F) day)) ∧ Below w.heap.size w w' := by
  have CK : Hid (∀ W, Below w.heap.size w W → Calls Try.prog 16 #[exV x bo k] W fun e w' => e = .returned (.tuple #[.int .i64 (x.kd : Nat), .bool x.has]) ∧ Below W.heap.size W w') := Lib.hid fun W h => kindOf_any x bo k W (fun b hb => Nat.lt_of_lt_of_le (hS b hb) h.size) hk (hx.stay (fun _ h => h) fun b hb => h.block b (hS b hb)) hf ht hde
  have CE : Hid (x.has = true → ∀ W, Below w.heap.size w W → Calls Try.prog 66 #[exV x bo k, .agg #[.int .i64 day, .slice fa F.length fc]] W fun e w' => e = .returned (vlV (x.ev (fun s => seenF day s F) day)) ∧ Below W.heap.size W w') := Lib.hid fun hh W h => by
    have hb : x.blt = true := by
      unfold Xp.has Xp.kd at hh
      by_cases hr : x.rgt = true
      · exact xrgt_blt hr
      · rw [if_neg hr] at hh
        simp at hh
    exact eval_any (S := S) (R := R) (B := w.heap.size) hS hR hW hl x bo k W h.size hb (hok hh) hk (hx.stay (fun _ h => h) fun b hb => h.block b (hS b hb)) (hfx.stay (fun _ h => h) fun b hb => h.block b (hR b hb))
  have HEV : Hid (x.evl (fun s => seenF day s F) day = if x.has = true then x.ev (fun s => seenF day s F) day else brkV) := Lib.hid rfl
  obtain ⟨RES, hRES⟩ : ∃ v, v = x.evl (fun s => seenF day s F) day := ⟨_, rfl⟩
  obtain ⟨EV, hEV⟩ : ∃ v, v = x.ev (fun s => seenF day s F) day := ⟨_, rfl⟩
  obtain ⟨hs, hhs⟩ : ∃ v, v = x.has := ⟨_, rfl⟩
  obtain ⟨kd, hkd⟩ : ∃ v, v = x.kd := ⟨_, rfl⟩
  rw [← hRES, ← hEV, ← hhs] at HEV
  rw [← hRES]
  rw [← hEV, ← hhs] at CE
  rw [← hhs, ← hkd] at CK
  obtain ⟨fm, hfm⟩ : ∃ m, m = F.length := ⟨_, rfl⟩
  obtain ⟨m, hm⟩ : ∃ m, m = x.args.length := ⟨_, rfl⟩
  obtain ⟨xo, hxo⟩ : ∃ v, v = x.op := ⟨_, rfl⟩
  obtain ⟨xn, hxn⟩ : ∃ v, v = x.n := ⟨_, rfl⟩
  obtain ⟨xs, hxs⟩ : ∃ v, v = x.nm := ⟨_, rfl⟩
  have hxe : exV x bo k = .agg #[.int .i64 xo, .int .i64 xn, .string xs, .slice bo m k] := by rw [hm, hxo, hxn, hxs]
  rw [hxe, ← hfm] at CE ⊢
  rw [hxe] at CK
  have GA := Lib.hid (entry_made (.int .i64 xo) (.int .i64 xn) (.string xs) (.slice bo m k) (.int .i64 day) (.slice fa fm fc) w)
  clear hx hf ht hde hok hfx hk hl hW hS hR hRES hEV hhs hkd hfm hm hxo hxn hxs hxe
  go_enter Try.func41, Try.ntmps41
  go_upto_region 1 with fail
  obtain ⟨W, hW⟩ : ∃ X, ((w.alloc (.cells #[.int .i64 xo, .int .i64 xn, .string xs, .slice bo m k] 34)).alloc (.cells #[.int .i64 day, .slice fa fm fc] 63)).alloc (.cells #[.int .i64 0, .int .i64 0, .bool false] 73) = X := ⟨_, rfl⟩
  obtain ⟨g1, b1, b2, b3⟩ := GA.out W hW
  obtain ⟨z, hz⟩ : ∃ z, z = w.heap.size := ⟨_, rfl⟩
  rw [hW, ← hz]
  rw [← hz] at b1 b2 b3
  have HE : Hid (EvB z #[.int .i64 xo, .int .i64 xn, .string xs, .slice bo m k] #[.int .i64 day, .slice fa fm fc] w W) := Lib.hid ⟨g1, b1, b2, b3, by omega⟩
  clear hW b1 b2 b3 g1 GA hz
  obtain ⟨c0, c1, c2, c3⟩ := quad HE.out.ex
  obtain ⟨e0, e1⟩ := duo HE.out.en
  cases hs with
  | false =>
    have HR : Hid (RES = brkV) := Lib.hid (by rw [HEV.out]; rfl)
    go_upto_region 3 with (go_at_call 16; (with_reducible refine (CK.out _ HE.out.bel).mono ?_); rintro e w3 ⟨rfl, hb⟩; have HE3 := Lib.hid (HE.out.next hb); clear hb)
    obtain ⟨q0', q1', q2'⟩ := trio HE3.out.va
    have p0 : w3.frozen? ⟨z + 1 + 1, 0, none⟩ = false := free_blk HE3.out.va 0
    have p1 : w3.frozen? ⟨z + 1 + 1, 1, none⟩ = false := free_blk HE3.out.va 1
    have p2 : w3.frozen? ⟨z + 1 + 1, 2, none⟩ = false := free_blk HE3.out.va 2
    go_wp2_with fail
    have HS9 := Lib.hid (three_set w3 (z + 1 + 1) (.int .i64 3) (.int .i64 0) (.bool false) _ _ ⟨_, _, _, rfl⟩ HE3.out.va)
    clear q0' q1' q2' p0 p1 p2
    obtain ⟨W9, hW9⟩ : ∃ X, (((w3.setCell ⟨z + 1 + 1, 0, none⟩ (.int .i64 3)).setCell ⟨z + 1 + 1, 1, none⟩ (.int .i64 0)).setCell ⟨z + 1 + 1, 2, none⟩ (.bool false)) = X := ⟨_, rfl⟩
    obtain ⟨k9, _, _, x9⟩ := HS9.out W9 hW9
    rw [hW9]
    obtain ⟨d0, d1, d2⟩ := trio x9
    exact bodyPost_ret (v := .agg #[.int .i64 3, .int .i64 0, .bool false]) (by simp [results, Try.results41, go_sem, d0, d1, d2]) rfl ⟨by rw [HR.out]; rfl, HE3.out.bel.trans (k9.mono (by have := HE3.out.le; omega))⟩
  | true =>
    have CE2 := Lib.hid (CE.out rfl)
    clear CE
    obtain ⟨jr, jn, jt⟩ := EV
    have CE3 : Hid (∀ W, Below w.heap.size w W → Calls Try.prog 66 #[.agg #[.int .i64 xo, .int .i64 xn, .string xs, .slice bo m k], .agg #[.int .i64 day, .slice fa fm fc]] W fun e w' => e = .returned (.agg #[.int .i64 jr, .int .i64 jn, .bool jt]) ∧ Below W.heap.size W w') := CE2
    have HR : Hid (RES = ⟨jr, jn, jt⟩) := Lib.hid (by rw [HEV.out]; rfl)
    go_upto_region 4 with (go_at_call 16; (with_reducible refine (CK.out _ HE.out.bel).mono ?_); rintro e w3 ⟨rfl, hb⟩; have HE3 := Lib.hid (HE.out.next hb); clear hb)
    clear c0 c1 c2 c3 e0 e1
    obtain ⟨c0, c1, c2, c3⟩ := quad HE3.out.ex
    obtain ⟨e0, e1⟩ := duo HE3.out.en
    go_wp2_with (go_at_call 66; (with_reducible refine (CE3.out _ HE3.out.bel).mono ?_); rintro e w4 ⟨rfl, hb⟩; have HB4 := Lib.hid hb; have HX4 := Lib.hid ((hb.block _ (lt_of_heap HE3.out.va)).trans HE3.out.va); obtain ⟨n0', n1', n2'⟩ := trio HX4.out; have p0 : w4.frozen? ⟨z + 1 + 1, 0, none⟩ = false := free_blk HX4.out 0; have p1 : w4.frozen? ⟨z + 1 + 1, 1, none⟩ = false := free_blk HX4.out 1; have p2 : w4.frozen? ⟨z + 1 + 1, 2, none⟩ = false := free_blk HX4.out 2; clear hb)
    obtain ⟨W10, hW10⟩ : ∃ X, (((w4.setCell ⟨z + 1 + 1, 0, none⟩ (.int .i64 jr)).setCell ⟨z + 1 + 1, 1, none⟩ (.int .i64 jn)).setCell ⟨z + 1 + 1, 2, none⟩ (.bool jt)) = X := ⟨_, rfl⟩
    obtain ⟨k9, _, _, x9⟩ := three_set w4 (z + 1 + 1) (.int .i64 jr) (.int .i64 jn) (.bool jt) _ _ ⟨_, _, _, rfl⟩ HX4.out W10 hW10
    rw [hW10]
    clear n0' n1' n2' p0 p1 p2
    obtain ⟨d0, d1, d2⟩ := trio x9
    exact bodyPost_ret (v := .agg #[.int .i64 jr, .int .i64 jn, .bool jt]) (by simp [results, Try.results41, go_sem, d0, d1, d2]) rfl ⟨by rw [HR.out], ((HE3.out.bel).trans (HB4.out.mono HE3.out.bel.size)).trans (k9.mono (by have := HE3.out.le; omega))⟩
set_option maxRecDepth 100000 in
set_option maxHeartbeats 4000000 in
theorem worked_15 (a b : Int) (w : World) : Calls Try.prog 93 #[.int .i64 15, .int .i64 a, .int .i64 b] w fun e w' => e = .returned (vlV (wkV 15 a b)) ∧ Below w.heap.size w w' := by
  have CT : Hid (∀ (t : Bool) W, Calls Try.prog 92 #[.bool t] W fun e w' => e = .returned (.agg #[.int .i64 2, .int .i64 0, .bool t]) ∧ Below W.heap.size W w') := Lib.hid fun t W => truth_any t W
  have HF := Lib.hid (three_made (.int .i64 0) (.int .i64 0) (.bool false) 73 w)
  obtain ⟨t, ht⟩ : ∃ t, t = decide (b ≤ a) := ⟨_, rfl⟩
  have HT : Hid (wkV 15 a b = truV t) := Lib.hid (by rw [ht]; rfl)
  have hd : decide (b ≤ a) = t := ht.symm
  go_enter Try.func93, Try.ntmps93
  go_upto_region 1 with fail
  obtain ⟨W, hW⟩ : ∃ X, w.alloc (.cells #[.int .i64 0, .int .i64 0, .bool false] 73) = X := ⟨_, rfl⟩
  obtain ⟨k, b', s⟩ := HF.out W hW
  obtain ⟨z, hz⟩ : ∃ z, z = w.heap.size := ⟨_, rfl⟩
  rw [hW, ← hz]
  rw [← hz] at b'
  have HB := Lib.hid k
  have HX := Lib.hid b'
  have HZ := Lib.hid hz
  clear hW k b' s HF hz
  cases t with
  | true =>
    have h1 : b ≤ a := of_decide_eq_true hd
    clear hd ht
    go_wp2_with (go_at_call 92; (with_reducible refine (CT.out true _).mono ?_); rintro e w4 ⟨rfl, hb⟩; have HB4 := Lib.hid hb; have HX4 := Lib.hid ((hb.block _ (lt_of_heap HX.out)).trans HX.out); obtain ⟨n0', n1', n2'⟩ := trio HX4.out; have p0 : w4.frozen? ⟨z, 0, none⟩ = false := free_blk HX4.out 0; have p1 : w4.frozen? ⟨z, 1, none⟩ = false := free_blk HX4.out 1; have p2 : w4.frozen? ⟨z, 2, none⟩ = false := free_blk HX4.out 2; clear hb)
    obtain ⟨W10, hW10⟩ : ∃ X, (((w4.setCell ⟨z, 0, none⟩ (.int .i64 2)).setCell ⟨z, 1, none⟩ (.int .i64 0)).setCell ⟨z, 2, none⟩ (.bool true)) = X := ⟨_, rfl⟩
    obtain ⟨k9, _, _, x9⟩ := three_set w4 z (.int .i64 2) (.int .i64 0) (.bool true) _ _ ⟨_, _, _, rfl⟩ HX4.out W10 hW10
    rw [hW10]
    clear n0' n1' n2' p0 p1 p2
    obtain ⟨d0, d1, d2⟩ := trio x9
    exact bodyPost_ret (v := .agg #[.int .i64 2, .int .i64 0, .bool true]) (by simp [results, Try.results93, go_sem, d0, d1, d2]) rfl ⟨by rw [HT.out]; rfl, (HB.out.trans (HB4.out.mono HB.out.size)).trans (k9.mono (by have := HZ.out; omega))⟩
  | false =>
    have h1 : ¬ (b ≤ a) := of_decide_eq_false hd
    clear hd ht
    go_wp2_with (go_at_call 92; (with_reducible refine (CT.out false _).mono ?_); rintro e w4 ⟨rfl, hb⟩; have HB4 := Lib.hid hb; have HX4 := Lib.hid ((hb.block _ (lt_of_heap HX.out)).trans HX.out); obtain ⟨n0', n1', n2'⟩ := trio HX4.out; have p0 : w4.frozen? ⟨z, 0, none⟩ = false := free_blk HX4.out 0; have p1 : w4.frozen? ⟨z, 1, none⟩ = false := free_blk HX4.out 1; have p2 : w4.frozen? ⟨z, 2, none⟩ = false := free_blk HX4.out 2; clear hb)
    obtain ⟨W10, hW10⟩ : ∃ X, (((w4.setCell ⟨z, 0, none⟩ (.int .i64 2)).setCell ⟨z, 1, none⟩ (.int .i64 0)).setCell ⟨z, 2, none⟩ (.bool false)) = X := ⟨_, rfl⟩
    obtain ⟨k9, _, _, x9⟩ := three_set w4 z (.int .i64 2) (.int .i64 0) (.bool false) _ _ ⟨_, _, _, rfl⟩ HX4.out W10 hW10
    rw [hW10]
    clear n0' n1' n2' p0 p1 p2
    obtain ⟨d0, d1, d2⟩ := trio x9
    exact bodyPost_ret (v := .agg #[.int .i64 2, .int .i64 0, .bool false]) (by simp [results, Try.results93, go_sem, d0, d1, d2]) rfl ⟨by rw [HT.out]; rfl, (HB.out.trans (HB4.out.mono HB.out.size)).trans (k9.mono (by have := HZ.out; omega))⟩
set_option maxRecDepth 100000 in
set_option maxHeartbeats 4000000 in
theorem worked_16 (a b : Int) (w : World) : Calls Try.prog 93 #[.int .i64 16, .int .i64 a, .int .i64 b] w fun e w' => e = .returned (vlV (wkV 16 a b)) ∧ Below w.heap.size w w' := by
  have CT : Hid (∀ (t : Bool) W, Calls Try.prog 92 #[.bool t] W fun e w' => e = .returned (.agg #[.int .i64 2, .int .i64 0, .bool t]) ∧ Below W.heap.size W w') := Lib.hid fun t W => truth_any t W
  have HF := Lib.hid (three_made (.int .i64 0) (.int .i64 0) (.bool false) 73 w)
  obtain ⟨t, ht⟩ : ∃ t, t = decide (b < a) := ⟨_, rfl⟩
  have HT : Hid (wkV 16 a b = truV t) := Lib.hid (by rw [ht]; rfl)
  have hd : decide (b < a) = t := ht.symm
  go_enter Try.func93, Try.ntmps93
  go_upto_region 1 with fail
  obtain ⟨W, hW⟩ : ∃ X, w.alloc (.cells #[.int .i64 0, .int .i64 0, .bool false] 73) = X := ⟨_, rfl⟩
  obtain ⟨k, b', s⟩ := HF.out W hW
  obtain ⟨z, hz⟩ : ∃ z, z = w.heap.size := ⟨_, rfl⟩
  rw [hW, ← hz]
  rw [← hz] at b'
  have HB := Lib.hid k
  have HX := Lib.hid b'
  have HZ := Lib.hid hz
  clear hW k b' s HF hz
  cases t with
  | true =>
    have h1 : b < a := of_decide_eq_true hd
    clear hd ht
    go_wp2_with (go_at_call 92; (with_reducible refine (CT.out true _).mono ?_); rintro e w4 ⟨rfl, hb⟩; have HB4 := Lib.hid hb; have HX4 := Lib.hid ((hb.block _ (lt_of_heap HX.out)).trans HX.out); obtain ⟨n0', n1', n2'⟩ := trio HX4.out; have p0 : w4.frozen? ⟨z, 0, none⟩ = false := free_blk HX4.out 0; have p1 : w4.frozen? ⟨z, 1, none⟩ = false := free_blk HX4.out 1; have p2 : w4.frozen? ⟨z, 2, none⟩ = false := free_blk HX4.out 2; clear hb)
    obtain ⟨W10, hW10⟩ : ∃ X, (((w4.setCell ⟨z, 0, none⟩ (.int .i64 2)).setCell ⟨z, 1, none⟩ (.int .i64 0)).setCell ⟨z, 2, none⟩ (.bool true)) = X := ⟨_, rfl⟩
    obtain ⟨k9, _, _, x9⟩ := three_set w4 z (.int .i64 2) (.int .i64 0) (.bool true) _ _ ⟨_, _, _, rfl⟩ HX4.out W10 hW10
    rw [hW10]
    clear n0' n1' n2' p0 p1 p2
    obtain ⟨d0, d1, d2⟩ := trio x9
    exact bodyPost_ret (v := .agg #[.int .i64 2, .int .i64 0, .bool true]) (by simp [results, Try.results93, go_sem, d0, d1, d2]) rfl ⟨by rw [HT.out]; rfl, (HB.out.trans (HB4.out.mono HB.out.size)).trans (k9.mono (by have := HZ.out; omega))⟩
  | false =>
    have h1 : ¬ (b < a) := of_decide_eq_false hd
    clear hd ht
    go_wp2_with (go_at_call 92; (with_reducible refine (CT.out false _).mono ?_); rintro e w4 ⟨rfl, hb⟩; have HB4 := Lib.hid hb; have HX4 := Lib.hid ((hb.block _ (lt_of_heap HX.out)).trans HX.out); obtain ⟨n0', n1', n2'⟩ := trio HX4.out; have p0 : w4.frozen? ⟨z, 0, none⟩ = false := free_blk HX4.out 0; have p1 : w4.frozen? ⟨z, 1, none⟩ = false := free_blk HX4.out 1; have p2 : w4.frozen? ⟨z, 2, none⟩ = false := free_blk HX4.out 2; clear hb)
    obtain ⟨W10, hW10⟩ : ∃ X, (((w4.setCell ⟨z, 0, none⟩ (.int .i64 2)).setCell ⟨z, 1, none⟩ (.int .i64 0)).setCell ⟨z, 2, none⟩ (.bool false)) = X := ⟨_, rfl⟩
    obtain ⟨k9, _, _, x9⟩ := three_set w4 z (.int .i64 2) (.int .i64 0) (.bool false) _ _ ⟨_, _, _, rfl⟩ HX4.out W10 hW10
    rw [hW10]
    clear n0' n1' n2' p0 p1 p2
    obtain ⟨d0, d1, d2⟩ := trio x9
    exact bodyPost_ret (v := .agg #[.int .i64 2, .int .i64 0, .bool false]) (by simp [results, Try.results93, go_sem, d0, d1, d2]) rfl ⟨by rw [HT.out]; rfl, (HB.out.trans (HB4.out.mono HB.out.size)).trans (k9.mono (by have := HZ.out; omega))⟩
end Go.Proofs.Ytidldlhhmophjaa
