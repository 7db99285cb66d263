/- The law SkipTurned walked: for every texts and every turn the call returns true. Condition: the library's table of trailing zeros stands in memory. -/
import Derived.Test.YtnganclkjoiggaaDoorSkNs
namespace Go.Proofs.YtnganclkjoiggaaDoor
open Go.RowKit Go.Maps Go.WideShapes
set_option linter.unusedVariables false
set_option linter.unusedSimpArgs false
namespace sk
/-- Two maps whose blocks are apart. -/
structure Two (B : Nat) (m1 m2 : Nat) (H1 H2 : Nd) (n1 n2 : List Nd) (w : World) : Prop where
  a : ∃ mx, SkAt B m1 H1 mx n1 w
  b : ∃ mx, SkAt B m2 H2 mx n2 w
  ap : ∀ x ∈ blks m1 H1 n1, x ∉ blks m2 H2 n2
theorem Two.put1 {B m1 m2 : Nat} {H1 H2 : Nd} {n1 n2 : List Nd} {w : World} (h : Two B m1 m2 H1 H2 n1 n2 w) {w0 : World} (hb : Below B w0 w) (k : ByteArray) (v : Int) (hT : TzAt w) (hg : 0 < B) (hl : n1.length ≤ 1000000) :
    Calls Tryd.prog 11 #[.pointer (some ⟨m1, 0, none⟩), .string k, .int .i64 v] w fun e w' => ∃ (n1' : List Nd) (a : Int) (b : Bool), e = .returned (.tuple #[.int .i64 a, .bool b]) ∧ PutR n1 k v n1' a b ∧ Two B m1 m2 H1 H2 n1' n2 w' ∧ Below B w0 w' := by
  obtain ⟨mx, ha⟩ := h.a
  obtain ⟨mx2, hb2⟩ := h.b
  refine (put_any ha k v hT hg ha.base hl).mono fun e w' ⟨ns', mx', a, b, h1, h2, h3, h4, h5⟩ => ⟨ns', a, b, h1, h2, ⟨⟨mx', h3⟩, ⟨mx2, hb2.only h4 fun x hx hm => h.ap x hm hx⟩, fun x hx hm => ?_⟩, ha.lift h4 (Nat.le_refl _) ha.base hb⟩
  rcases h5 x hx with h6 | h6
  · exact h.ap x h6 hm
  · have := hb2.lt x hm; omega
theorem Two.swap {B m1 m2 : Nat} {H1 H2 : Nd} {n1 n2 : List Nd} {w : World} (h : Two B m1 m2 H1 H2 n1 n2 w) : Two B m2 m1 H2 H1 n2 n1 w := ⟨h.b, h.a, fun x hx hm => h.ap x hm hx⟩
theorem Two.base {B m1 m2 : Nat} {H1 H2 : Nd} {n1 n2 : List Nd} {w : World} (h : Two B m1 m2 H1 H2 n1 n2 w) : B ≤ w.heap.size := by
  obtain ⟨_, ha⟩ := h.a
  exact ha.base
/-- Which keys there are. -/
def Has (ns : List Nd) (S : ByteArray → Prop) : Prop := ∀ x, x ∈ ns.map (·.k) ↔ S x
theorem Has.put {ns ns' : List Nd} {k : ByteArray} {v a : Int} {b : Bool} {S : ByteArray → Prop} (h : Has ns S) (p : PutR ns k v ns' a b) : Has ns' (fun x => x = k ∨ S x) := fun x => by rw [p.keys x, h x]
set_option maxRecDepth 100000 in
set_option maxHeartbeats 16000000 in
theorem skipTurned_walk (ao : Option Addr) (cap : Nat) (xs : List ByteArray) (by_ : Int) (wc : xs.length ≤ cap) (wm : cap ≤ maxLen) (wx : ∀ x ∈ xs, x.size ≤ maxLen) (w1 : (Lit.int .i64 by_).wf = true) (w : World) (hT : TzAt w) (hs : VAt w.heap.size ao (xs.map Value.string) w) :
    Calls Tryd.prog 5 #[.slice ao xs.length cap, .int .i64 by_] w fun e w' => e = .returned (.bool true) ∧ Below w.heap.size w w' := by
  obtain ⟨n, hn⟩ : ∃ n, n = xs.length := ⟨_, rfl⟩
  rw [← hn]
  have HN := Lib.hid hn
  have CA := Lib.hid (awake_any w hT)
  have hm : n ≤ maxLen := by omega
  unfold maxLen at hm
  have HT : Hid (∀ W, Below w.heap.size w W → TzAt W) := Lib.hid fun W hb => hT.next hb
  have HG : Hid (0 < w.heap.size) := Lib.hid hT.pos
  have HS : Hid (∀ W, Below w.heap.size w W → VAt w.heap.size ao (xs.map Value.string) W) := Lib.hid fun W hb => hs.under hb
  clear hT hs wc wm wx hn w1
  rcases Nat.eq_zero_or_pos n with rfl | hn0
  · go_enter Tryd.func5, Tryd.ntmps5
    go_wp2_with (go_at_call 8; (with_reducible refine CA.out.mono ?_); rintro e w1 ⟨rfl, hb1⟩; have HB1 := Lib.hid hb1; clear hb1)
    go_ret
    exact ⟨rfl, HB1.out⟩
  have t0 : ¬ (n : Int) = 0 := by omega
  by_cases h150 : n ≤ 150
  · have h1 : ¬ (150 : Int) < (n : Int) := by omega
    obtain ⟨sh, hsh, hshn⟩ : ∃ sh : Nat, IntKind.u64.wrap by_ % (n : Int) = (sh : Int) ∧ sh < n := by
      have h0 := Int.emod_nonneg (IntKind.u64.wrap by_) t0
      have h2 := Int.emod_lt_of_pos (IntKind.u64.wrap by_) (show (0 : Int) < n by omega)
      exact ⟨(IntKind.u64.wrap by_ % (n : Int)).toNat, by omega, by omega⟩
    have e1 : IntKind.u64.wrap (n : Int) = (n : Int) := by rw [IntKind.wrap_u64]; omega
    have e2 : IntKind.i64.wrap (sh : Int) = (sh : Int) := by rw [IntKind.wrap_i64]; omega
    have e3 : (IntKind.u64.wrap by_).tmod (n : Int) = (sh : Int) := by rw [Int.tmod_eq_emod_of_nonneg (by rw [IntKind.wrap_u64]; omega)]; exact hsh
    go_enter Tryd.func5, Tryd.ntmps5
    go_upto_region 4 with (go_at_call 8; (with_reducible refine CA.out.mono ?_); rintro e w1 ⟨rfl, hb1⟩; have HB1 := Lib.hid hb1; clear hb1)
    have CN1 := Lib.hid (new_any w1)
    go_wp2_with (go_at_call 9; fail)
    refine CN1.out.mono ?_
    rintro e w2 ⟨H1, rfl, hs2, hb2⟩
    have CN2 := Lib.hid (new_any w2)
    have B2 := Lib.hid hb2
    have S1 := Lib.hid hs2
    clear hs2 hb2 CN1
    go_wp2_with fail
    refine CN2.out.mono ?_
    rintro e w3 ⟨H2, rfl, hs3, hb3⟩
    obtain ⟨B, hB⟩ : ∃ B, B = w1.heap.size := ⟨_, rfl⟩
    rw [← hB] at S1 ⊢
    obtain ⟨m1, hm1⟩ : ∃ m, m = B + 2 := ⟨_, rfl⟩
    rw [← hm1] at S1 ⊢
    have hw12 := B2.out.size
    obtain ⟨m2, hm2⟩ : ∃ m, m = w2.heap.size + 2 := ⟨_, rfl⟩
    rw [← hm2] at hs3 ⊢
    have TW : Hid (Two B m1 m2 H1 H2 [] [] w3) := Lib.hid ⟨⟨_, S1.out.under hb3⟩, ⟨_, hs3.mono (by omega)⟩, fun x hx hm => by have h1 := S1.out.lt x hx; have h2 := hs3.lo x hm; omega⟩
    have HBB : Hid (w.heap.size ≤ B) := Lib.hid (by rw [hB]; exact HB1.out.size)
    have HB3 := Lib.hid (below_mono (below_mono HB1.out B2.out (Nat.le_refl _)) hb3 (Nat.le_refl _))
    clear hB hm1 hm2 hs3 hb3 S1 B2 CN2 hw12 HB1
    go_wp2_with fail
    go_loopw [8] (fun i wr => ∃ (j : Nat) (n1 n2 : List Nd), j ≤ n ∧ i = .int .i64 j ∧ Hid (Two B m1 m2 H1 H2 n1 n2 wr) ∧ Hid (Has n1 fun x => ∃ i, i < j ∧ xs[i]? = some x) ∧ Hid (Has n2 fun x => ∃ i, i < j ∧ (xs[(i + sh) % n]? = some x ∨ xs[n - 1 - i]? = some x)) ∧ Hid (n1.length ≤ j ∧ n2.length ≤ 2 * j) ∧ Hid (Below w.heap.size w wr)) (fun i _ => n - (intOf i).toNat)
    case atStart => exact ⟨0, [], [], by omega, rfl, TW, Lib.hid (by intro x; simp), Lib.hid (by intro x; simp), Lib.hid ⟨by simp, by simp⟩, HB3⟩
    case round =>
      obtain ⟨j, n1, n2, hj, rfl, HW, K1, K2, HL, HB⟩ := hrel
      clear TW HB3
      have hj0 : (0 : Int) ≤ (j : Int) := by omega
      by_cases hlt : j < n
      · have hji : (j : Int) < (n : Int) := by omega
        obtain ⟨p, hp, hpn⟩ : ∃ p, p = (j + sh) % n ∧ p < n := ⟨_, rfl, Nat.mod_lt _ (by omega)⟩
        obtain ⟨q, hq, hqn⟩ : ∃ q, q = n - 1 - j ∧ q < n := ⟨_, rfl, by omega⟩
        have p1 : IntKind.i64.wrap ((j : Int) + (sh : Int)) = (j : Int) + (sh : Int) := by rw [IntKind.wrap_i64]; omega
        have p2 : ((j : Int) + (sh : Int)) % (n : Int) = (p : Int) := by rw [hp]; simp
        have p3 : ((j : Int) + (sh : Int)).tmod (n : Int) = (p : Int) := by rw [Int.tmod_eq_emod_of_nonneg (by omega)]; exact p2
        have p4 : (p : Int) < (n : Int) := by omega
        have p5 : (0 : Int) ≤ (p : Int) := by omega
        have q1 : IntKind.i64.wrap ((n : Int) - 1) = (n : Int) - 1 := by rw [IntKind.wrap_i64]; omega
        have q2 : IntKind.i64.wrap ((n : Int) - 1 - (j : Int)) = (q : Int) := by rw [IntKind.wrap_i64]; omega
        have q3 : (n : Int) - 1 - (j : Int) = (q : Int) := by omega
        have q4 : (q : Int) < (n : Int) := by omega
        have q5 : (0 : Int) ≤ (q : Int) := by omega
        have hlx : 0 < (xs.map Value.string).length := by simp; rw [← HN.out]; omega
        obtain ⟨a, rfl⟩ := (HS.out wr HB.out).there hlx
        have each : ∀ i, i < n → ∃ x, xs[i]? = some x ∧ ∀ W, Below w.heap.size w W → W.cell? (a.add i) = some (.string x) := fun i hi => by
          obtain ⟨x, hx⟩ : ∃ x, xs[i]? = some x := ⟨xs[i]'(by rw [← HN.out]; exact hi), List.getElem?_eq_getElem _⟩
          exact ⟨x, hx, fun W hW => ((HS.out W hW).cells a rfl hlx).2 i (.string x) (by simp [hx])⟩
        obtain ⟨x0, hx0, c0⟩ := each j hlt
        obtain ⟨x1, hx1, c1⟩ := each p hpn
        obtain ⟨x2, hx2, c2⟩ := each q hqn
        have C1 := Lib.hid c1
        have C2 := Lib.hid c2
        have X0 := Lib.hid hx0
        have X1 := Lib.hid hx1
        have X2 := Lib.hid hx2
        have HP := Lib.hid hp
        have HQ := Lib.hid hq
        have d0 := c0 wr HB.out
        have CP := Lib.hid (HW.out.put1 (Below.refl B wr) x0 1 (HT.out wr HB.out) (Nat.lt_of_lt_of_le HG.out HBB.out) (by have := HL.out.1; omega))
        clear hx0 hx1 hx2 c0 c1 c2 each hlx hp hq
        go_wp2_with fail
        refine CP.out.mono ?_
        rintro e w4 ⟨n1', va, vb, rfl, hp1, hw4, hb4⟩
        have HB4 := Lib.hid (HB.out.trans (hb4.mono HBB.out))
        have W4 := Lib.hid hw4
        have P1 := Lib.hid hp1
        have d1 := C1.out w4 HB4.out
        have CP2 := Lib.hid (hw4.swap.put1 (Below.refl B w4) x1 1 (HT.out w4 HB4.out) (Nat.lt_of_lt_of_le HG.out HBB.out) (by have := HL.out.2; omega))
        clear hp1 hw4 hb4 CP
        go_wp2_with fail
        refine CP2.out.mono ?_
        rintro e w5 ⟨n2', va2, vb2, rfl, hp2, hw5, hb5⟩
        have HB5 := Lib.hid (HB4.out.trans (hb5.mono HBB.out))
        have W5 := Lib.hid hw5
        have P2 := Lib.hid hp2
        have d2 := C2.out w5 HB5.out
        have CP3 := Lib.hid (hw5.put1 (Below.refl B w5) x2 1 (HT.out w5 HB5.out) (Nat.lt_of_lt_of_le HG.out HBB.out) (by have h1 := hp2.len; have := HL.out.2; omega))
        clear hp2 hw5 hb5 CP2
        go_wp2_with fail
        refine CP3.out.mono ?_
        rintro e w6 ⟨n2'', va3, vb3, rfl, hp3, hw6, hb6⟩
        have HB6 := Lib.hid (HB5.out.trans (hb6.mono HBB.out))
        have W6 := Lib.hid hw6.swap
        have L6 : Hid (n1'.length ≤ j + 1 ∧ n2''.length ≤ 2 * (j + 1)) := Lib.hid (by have h1 := P1.out.len; have h2 := P2.out.len; have h3 := hp3.len; have := HL.out; omega)
        have K1' : Hid (Has n1' fun x => ∃ i, i < j + 1 ∧ xs[i]? = some x) := Lib.hid fun x => by
          rw [K1.out.put P1.out x]
          constructor
          · rintro (rfl | ⟨i, hi, h⟩)
            · exact ⟨j, by omega, X0.out⟩
            · exact ⟨i, by omega, h⟩
          · rintro ⟨i, hi, h⟩
            by_cases e : i = j
            · subst e
              have := X0.out.symm.trans h
              injection this with this
              exact .inl this.symm
            · exact .inr ⟨i, by omega, h⟩
        have K2' : Hid (Has n2'' fun x => ∃ i, i < j + 1 ∧ (xs[(i + sh) % n]? = some x ∨ xs[n - 1 - i]? = some x)) := Lib.hid fun x => by
          rw [(K2.out.put P2.out).put hp3 x]
          constructor
          · rintro (rfl | rfl | ⟨i, hi, h⟩)
            · exact ⟨j, by omega, .inr (by rw [← HQ.out]; exact X2.out)⟩
            · exact ⟨j, by omega, .inl (by rw [← HP.out]; exact X1.out)⟩
            · exact ⟨i, by omega, h⟩
          · rintro ⟨i, hi, h⟩
            by_cases e : i = j
            · subst e
              rcases h with h | h
              · rw [← HP.out] at h
                have := X1.out.symm.trans h
                injection this with this
                exact .inr (.inl this.symm)
              · rw [← HQ.out] at h
                have := X2.out.symm.trans h
                injection this with this
                exact .inl this.symm
            · exact .inr (.inr ⟨i, by omega, h⟩)
        clear hp3 hw6 hb6 CP3 W5 W4
        go_wp2_with fail
        go_roundw
        case rel => exact ⟨j + 1, n1', n2'', by omega, by go_num, W6, K1', K2', L6, HB6⟩
        case measure => simp [intOf]; omega
      · obtain rfl : j = n := by omega
        obtain ⟨⟨mx1, s1⟩, ⟨mx2, s2⟩, _⟩ := id HW.out
        have ek : n1.map (·.k) = n2.map (·.k) := srt_eq s1.srt s2.srt fun x => by
          rw [K1.out x, K2.out x]
          constructor
          · rintro ⟨i, hi, h⟩
            exact ⟨j - 1 - i, by omega, .inr (by rw [show j - 1 - (j - 1 - i) = i by omega]; exact h)⟩
          · rintro ⟨i, hi, h | h⟩
            · exact ⟨(i + sh) % j, Nat.mod_lt _ (by omega), h⟩
            · exact ⟨j - 1 - i, by omega, h⟩
        have em : n2.map kv = n1.map kv := by
          have := congrArg (List.map Value.string) ek
            rw [List.map_map, List.map_map] at this
          exact this.symm
        have el : n2.length = n1.length := by have := congrArg List.length ek; simpa using this.symm
        have C1 := Lib.hid (keys_any s1 (by have := HL.out.1; omega))
        have C2 : Hid (∀ W, Below wr.heap.size wr W → _) := Lib.hid fun W hb => keys_any (s2.under hb) (by have := HL.out.2; omega)
        rw [em, el] at C2
        have h1l : n1.length ≤ 100000 := by have := HL.out.1; omega
        clear s1 s2 ek em el
        go_wp2_with (first | (go_at_call 17; (first | (with_reducible refine C1.out.mono ?_) | (with_reducible refine C3.out.mono ?_)); rintro e w5 ⟨ka, kc, rfl, hk5, hb5⟩; first | (have CS := Lib.hid (same_any (row_stay HK5.out fun g hg => hb5.block g (HK5.out.lt g hg).2) hk5 h1l rfl); have HB6 := Lib.hid (below_mono HB5.out hb5 (Nat.le_refl _)); clear hk5 hb5) | (have HK5 := Lib.hid hk5; have C3 := Lib.hid (C2.out _ hb5); have HB5 := Lib.hid (below_mono HB.out hb5 (Nat.le_refl _)); clear hk5 hb5)) | (go_at_call 24; (with_reducible refine CS.out.mono ?_); rintro e w7 ⟨rfl, hb7⟩; have HB7 := Lib.hid (below_mono HB6.out hb7 (Nat.le_refl _)); clear hb7))
        go_ret
        exact ⟨rfl, HB7.out⟩
  · have h1 : (150 : Int) < (n : Int) := by omega
    go_enter Tryd.func5, Tryd.ntmps5
    go_wp2_with (go_at_call 8; (with_reducible refine CA.out.mono ?_); rintro e w1 ⟨rfl, hb1⟩; have HB1 := Lib.hid hb1; clear hb1)
    go_ret
    exact ⟨rfl, HB1.out⟩
end sk
end Go.Proofs.YtnganclkjoiggaaDoor
