/- Layer 14: inner keys: the document's, packed, unpacked. Conditions: those written at each theorem. -/
import Derived.Test.YtkeeljjbdmmeiaaGreatDoorCuL
import Derived.Test.YtkeeljjbdmmeiaaGreatDoorCrcV
import Derived.Test.YtkeeljjbdmmeiaaGreatDoorShelf
namespace Go.Proofs.YtkeeljjbdmmeiaaGreatDoor
open Go.RowKit Go.Maps Go.WideShapes
set_option linter.unusedVariables false
set_option linter.unusedSimpArgs false
theorem rdfixed8_any (b : Nat) (s : ByteArray) (hKs : 8 ≤ s.size) (hs : s.size ≤ maxLen) (w : World) (h : RdAt b s false w) :
    Calls Tryz.prog 38 #[.pointer (some ⟨b, 0, none⟩)] w fun e w' => e = .returned (.int .u64 (val (s.data.toList.take 8))) ∧ RdAt b (s.extract 8 s.size) false w' ∧ w.grownBy w' (some b) := by
  have H := Lib.hid h
  have G := Lib.hid (rdfixed_any b s 8 (by omega) hKs hs)
  clear h
  obtain ⟨x, hx⟩ : ∃ x, x = val (s.data.toList.take 8) := ⟨_, rfl⟩
  rw [← hx] at G
  rw [← hx]
  clear hx
  go_enter Tryz.func38, Tryz.ntmps38
  go_wp2_with fail
  refine (G.out _ H.out).mono ?_
  rintro e w1 ⟨rfl, h1, k1⟩
  have H1 := Lib.hid h1
  have K1 := Lib.hid k1
  clear h1 k1
  go_wp2_with fail
  go_ret
  exact ⟨rfl, H1.out, K1.out⟩
/-- An inner key. -/
def inn (key : ByteArray) (seq : Nat) : ByteArray := key ++ ⟨#[0]⟩ ++ ⟨(fx (4611686018427387904 - seq) 8).toArray⟩
theorem inner_any (key : ByteArray) (seq : Nat) (hk : key.size ≤ 100000) (hs : seq ≤ 4611686018427387904) (w : World) : Calls Tryz.prog 11 #[.string key, .int .i64 seq] w fun e w' => e = .returned (.string (inn key seq)) ∧ Below w.heap.size w w' := by
  obtain ⟨m, hm⟩ : ∃ m, m = 4611686018427387904 - seq := ⟨_, rfl⟩
  have CF : Hid (Calls Tryz.prog 36 #[.int .u64 m, .int .i64 8] w fun e w' => e = .returned (.string ⟨(fx m 8).toArray⟩) ∧ Below w.heap.size w w') := Lib.hid (rfixed_any m 8 (by omega) (by omega) w)
  obtain ⟨f, hf⟩ : ∃ f : ByteArray, f = ⟨(fx m 8).toArray⟩ := ⟨_, rfl⟩
  have HF : Hid (f.size = 8) := Lib.hid (by rw [hf, str_size, fx_length])
  have HR : Hid (inn key seq = key ++ ⟨#[0]⟩ ++ f) := Lib.hid (by unfold inn; rw [← hm, hf])
  rw [← hf] at CF
  have w1 : IntKind.i64.wrap (4611686018427387904 - (seq : Int)) = (m : Int) := by rw [IntKind.wrap_i64]; omega
  have w2 : IntKind.u64.wrap (m : Int) = (m : Int) := by rw [IntKind.wrap_u64]; omega
  have q1 : (9223372036854775807 < key.size + 1) = False := by
    simp only [eq_iff_iff, iff_false]; omega
  have q2 : (9223372036854775807 < key.size + 1 + f.size) = False := by
    have := HF.out
    simp only [eq_iff_iff, iff_false]; omega
  clear hk hs hm hf
  go_enter Tryz.func11, Tryz.ntmps11
  go_wp2_with (go_at_call 36; (with_reducible refine CF.out.mono ?_); rintro e w2 ⟨rfl, hb⟩; have HB := Lib.hid hb; clear hb)
  go_ret
  exact ⟨by rw [HR.out]; rfl, HB.out⟩
/-- May a key be in an inner one? -/
def rk (s : ByteArray) : Bool := decide (1 ≤ s.size) && (decide (s.size ≤ 64) && decide (Lib.indexByte s.data.toList 0 < 0))
theorem rk_any (s : ByteArray) (w : World) : Calls Tryz.prog 32 #[.string s] w fun e w' => e = .returned (.bool (rk s)) ∧ w = w' := by
  have CI : Hid (Calls Tryz.prog 54 #[.string s, .int .u8 0] w fun e w' => e = .returned (.int .i64 (Lib.indexByte s.data.toList 0)) ∧ w' = w) := Lib.hid (Tryz.strings_IndexByte s 0 w)
  obtain ⟨x, hx⟩ : ∃ x, x = Lib.indexByte s.data.toList 0 := ⟨_, rfl⟩
  have HR : Hid (rk s = (decide (1 ≤ s.size) && (decide (s.size ≤ 64) && decide (x < 0)))) := Lib.hid (by rw [hx]; rfl)
  rw [← hx] at CI
  rw [HR.out]
  have hu : undef = Value.tuple #[] := rfl
  clear hx
  obtain ⟨n, hn⟩ : ∃ n, n = s.size := ⟨_, rfl⟩
  by_cases h1 : 1 ≤ s.size
  · have s1 : (1 : Int) ≤ (s.size : Int) := by omega
    by_cases h2 : s.size ≤ 64
    · have s2 : (s.size : Int) ≤ 64 := by omega
      have e1 : decide (1 ≤ s.size) = true := by simp [h1]
      have e2 : decide (s.size ≤ 64) = true := by simp [h2]
      rw [e1, e2]
      clear h1 h2 hn e1 e2
      go_enter Tryz.func32, Tryz.ntmps32
      go_wp2_with (go_at_call 54; (with_reducible refine CI.out.mono ?_); rintro e w2 ⟨rfl, rfl⟩)
      go_ret
      exact ⟨by simp, rfl⟩
    · have s2 : ¬ (s.size : Int) ≤ 64 := by omega
      have e1 : decide (1 ≤ s.size) = true := by simp [h1]
      have e2 : decide (s.size ≤ 64) = false := by simp [h2]
      rw [e1, e2]
      clear h1 h2 hn e1 e2
      go_enter Tryz.func32, Tryz.ntmps32
      go_wp2_with fail
      go_ret
      exact ⟨by simp, rfl⟩
  · have s1 : ¬ (1 : Int) ≤ (s.size : Int) := by omega
    have e1 : decide (1 ≤ s.size) = false := by simp [h1]
    rw [e1]
    clear h1 hn e1
    go_enter Tryz.func32, Tryz.ntmps32
    go_wp2_with fail
    go_ret
    exact ⟨by simp, rfl⟩
theorem blen (t : ByteArray) : t.data.toList.length = t.size := Array.length_toList
/-- What is unpacked. -/
def unpV (s : ByteArray) : Nat := val (s.data.toList.drop (s.size - 8))
def unp (s : ByteArray) : Option (ByteArray × Nat) := if s.size < 9 then none else if rk (s.extract 0 (s.size - 9)) = true ∧ s.data.toList.getD (s.size - 9) 0 = 0 then (if unpV s ≤ 4611686018427387904 then some (s.extract 0 (s.size - 9), 4611686018427387904 - unpV s) else none) else none
def unpK (s : ByteArray) : ByteArray := match unp s with | some (k, _) => k | none => ⟨#[]⟩
def unpN (s : ByteArray) : Int := match unp s with | some (_, n) => (n : Nat) | none => 0
def unpB (s : ByteArray) : Bool := (unp s).isSome
set_option maxRecDepth 100000 in
set_option maxHeartbeats 2000000 in
theorem unpack_any (s : ByteArray) (hs : s.size ≤ 100000) (w : World) : Calls Tryz.prog 12 #[.string s] w fun e w' => e = .returned (.tuple #[.string (unpK s), .int .i64 (unpN s), .bool (unpB s)]) ∧ Below w.heap.size w w' := by
  have hu : undef = Value.tuple #[] := rfl
  have w1 : IntKind.i64.wrap ((s.size : Int) - 9) = (s.size : Int) - 9 := by rw [IntKind.wrap_i64]; omega
  by_cases h9 : s.size < 9
  · have e : unp s = none := by unfold unp; rw [if_pos h9]
    have HR : Hid (unpK s = ⟨#[]⟩ ∧ unpN s = 0 ∧ unpB s = false) := Lib.hid (by unfold unpK unpN unpB; rw [e]; exact ⟨rfl, rfl, rfl⟩)
    obtain ⟨r1, r2, r3⟩ := HR.out
    rw [r1, r2, r3]
    have s1 : (s.size : Int) - 9 < 0 := by omega
    clear e HR r1 r2 r3 h9 hs
    go_enter Tryz.func12, Tryz.ntmps12
    go_wp2_with fail
    refine bodyPost_ret (v := .tuple #[.string ⟨#[]⟩, .int .i64 0, .bool false]) (by simp [results, Tryz.results12, go_sem]) rfl ⟨rfl, Below.refl _ _⟩
  · obtain ⟨n, hn⟩ : ∃ n, n = s.size - 9 := ⟨_, rfl⟩
    have w2 : (s.size : Int) - 9 = (n : Int) := by omega
    rw [w2] at w1
    have n0 : (0 : Int) ≤ (n : Int) := by omega
    have n1 : (n : Int) ≤ (s.size : Int) := by omega
    have n2 : (n : Int) < (s.size : Int) := by omega
    have n3 : ¬ (n : Int) < 0 := by omega
    obtain ⟨ky, hky⟩ : ∃ k, k = s.extract 0 n := ⟨_, rfl⟩
    have CK : Hid (∀ W, Calls Tryz.prog 32 #[.string (s.extract 0 n)] W fun e w' => e = .returned (.bool (rk ky)) ∧ W = w') := Lib.hid fun W => by rw [hky]; exact rk_any _ W
    have hN : unp s = none → unpK s = ⟨#[]⟩ ∧ unpN s = 0 ∧ unpB s = false := fun e => by unfold unpK unpN unpB; rw [e]; exact ⟨rfl, rfl, rfl⟩
    cases hr : rk ky with
    | false =>
      obtain ⟨r1, r2, r3⟩ := hN (by unfold unp; rw [if_neg h9, ← hn, ← hky, hr]; simp)
      rw [r1, r2, r3]
      rw [hr] at CK
      clear r1 r2 r3 h9 hs hn hr hN
      go_enter Tryz.func12, Tryz.ntmps12
      go_wp2_with (go_at_call 32; (with_reducible refine (CK.out _).mono ?_); rintro e w2 ⟨rfl, rfl⟩)
      exact bodyPost_ret (v := .tuple #[.string ⟨#[]⟩, .int .i64 0, .bool false]) (by simp [results, Tryz.results12, go_sem]) rfl ⟨rfl, Below.refl _ _⟩
    | true =>
      rw [hr] at CK
      have hsz : n < s.size := by omega
      have hb : s.data.toList.getD n 0 = s[n] := by
        have h' : n < s.data.toList.length := by rw [blen]; exact hsz
        simp only [List.getD, List.getElem?_eq_getElem h', Option.getD_some]
        rfl
      obtain ⟨bt, hbt⟩ : ∃ b, b = s[n] := ⟨_, rfl⟩
      have HBT : Hid (s[n] = bt) := Lib.hid hbt.symm
      by_cases hz : bt = 0
      · obtain ⟨t, ht⟩ : ∃ t : ByteArray, t = s.extract (n + 1) s.size := ⟨_, rfl⟩
        have htl : t.data.toList = s.data.toList.drop (s.size - 8) := by
          rw [ht, extract_list, List.take_of_length_le (by rw [blen]; exact Nat.le_refl _)]
          congr 1
          omega
        have hts : t.size = 8 := by
          rw [← blen, htl, List.length_drop, blen]
          omega
        obtain ⟨x, hx⟩ : ∃ x, x = unpV s := ⟨_, rfl⟩
        have hv : val (t.data.toList.take 8) = x := by
          rw [hx, List.take_of_length_le (by rw [blen]; omega), htl]; rfl
        have CR : Hid (∀ W, w.alloc (.cells #[.string t, .bool false] 107) = W → Calls Tryz.prog 38 #[.pointer (some ⟨w.heap.size, 0, none⟩)] W fun e w' => e = .returned (.int .u64 x) ∧ Below w.heap.size w w') := Lib.hid (by
          rintro W rfl
          have hm : t.size ≤ maxLen := by unfold maxLen; omega
          have := rdfixed8_any w.heap.size t (by omega) hm _ (RdAt.fresh w t)
          rw [hv] at this
          refine this.mono fun e w' ⟨h1, _, h3⟩ => ⟨h1, ?_⟩
          have hb := (Below.refl w.heap.size w).alloc (Nat.le_refl _) (.cells #[.string t, .bool false] 107)
          exact hb.grown h3 hb.size (fun g hg => by cases hg; exact Nat.le_refl _))
        have CD : Hid (Calls Tryz.prog 37 #[.string (s.extract (n + 1) s.size)] w fun e w' => e = .returned (.pointer (some ⟨w.heap.size, 0, none⟩)) ∧ w.alloc (.cells #[.string t, .bool false] 107) = w') := Lib.hid (by rw [ht]; exact read_any _ w)
        have w3 : IntKind.i64.wrap ((n : Int) + 1) = ((n + 1 : Nat) : Int) := by rw [IntKind.wrap_i64]; omega
        have n4 : ((n + 1 : Nat) : Int) ≤ (s.size : Int) := by omega
        have n5 : (0 : Int) ≤ ((n + 1 : Nat) : Int) := by omega
        have hbz : ((s[n].toNat : Int) != 0) = false := by rw [← hbt, hz]; rfl
        by_cases hx2 : x ≤ 4611686018427387904
        · have e : unp s = some (ky, 4611686018427387904 - x) := by unfold unp; rw [if_neg h9, ← hn, ← hky, if_pos ⟨hr, by rw [hb, ← hbt]; exact hz⟩, ← hx, if_pos hx2]
          obtain ⟨y, hy⟩ : ∃ y, y = 4611686018427387904 - x := ⟨_, rfl⟩
          have HR : Hid (unpK s = ky ∧ unpN s = (y : Int) ∧ unpB s = true) := Lib.hid (by unfold unpK unpN unpB; rw [e, hy]; exact ⟨rfl, rfl, rfl⟩)
          obtain ⟨r1, r2, r3⟩ := HR.out
          rw [r1, r2, r3, hky]
          have s9 : ¬ (4611686018427387904 : Int) < (x : Int) := by omega
          have w4 : IntKind.i64.wrap (x : Int) = (x : Int) := by rw [IntKind.wrap_i64]; omega
          have w5 : IntKind.i64.wrap (4611686018427387904 - (x : Int)) = (y : Int) := by rw [IntKind.wrap_i64]; omega
          clear e HR r1 r2 r3 h9 hs hn hr hN hb hbt hz ht htl hts hx hv hx2 hy hky HBT
          go_enter Tryz.func12, Tryz.ntmps12
          go_wp2_with (first
            | (go_at_call 32; (with_reducible refine (CK.out _).mono ?_); rintro e w2 ⟨rfl, rfl⟩)
            | (go_at_call 37; (with_reducible refine CD.out.mono ?_); rintro e w3 ⟨rfl, h3⟩; have HW3 := Lib.hid h3; clear h3)
            | (go_at_call 38; (with_reducible refine (CR.out _ HW3.out).mono ?_); rintro e w4 ⟨rfl, hb4⟩; have HB4 := Lib.hid hb4; clear hb4))
          exact bodyPost_ret (v := .tuple #[.string (s.extract 0 n), .int .i64 y, .bool true]) (by simp [results, Tryz.results12, go_sem]) rfl ⟨rfl, HB4.out⟩
        · obtain ⟨r1, r2, r3⟩ := hN (by unfold unp; rw [if_neg h9, ← hn, ← hky, if_pos ⟨hr, by rw [hb, ← hbt]; exact hz⟩, ← hx, if_neg hx2])
          rw [r1, r2, r3]
          have s9 : (4611686018427387904 : Int) < (x : Int) := by omega
          clear r1 r2 r3 h9 hs hn hr hN hb hbt hz ht htl hts hx hv hx2 hky HBT
          go_enter Tryz.func12, Tryz.ntmps12
          go_wp2_with (first
            | (go_at_call 32; (with_reducible refine (CK.out _).mono ?_); rintro e w2 ⟨rfl, rfl⟩)
            | (go_at_call 37; (with_reducible refine CD.out.mono ?_); rintro e w3 ⟨rfl, h3⟩; have HW3 := Lib.hid h3; clear h3)
            | (go_at_call 38; (with_reducible refine (CR.out _ HW3.out).mono ?_); rintro e w4 ⟨rfl, hb4⟩; have HB4 := Lib.hid hb4; clear hb4))
          exact bodyPost_ret (v := .tuple #[.string ⟨#[]⟩, .int .i64 0, .bool false]) (by simp [results, Tryz.results12, go_sem]) rfl ⟨rfl, HB4.out⟩
      · obtain ⟨r1, r2, r3⟩ := hN (by unfold unp; rw [if_neg h9, ← hn, ← hky, if_neg (by rw [hb, ← hbt]; simp [hz])])
        rw [r1, r2, r3]
        have hbz : ((s[n].toNat : Int) != 0) = true := by
          rw [← hbt]
          simp only [bne_iff_ne, ne_eq]
          intro h0
          exact hz (UInt8.toNat_inj.1 (by rw [UInt8.toNat_zero]; omega))
        clear r1 r2 r3 h9 hs hn hr hN hb hbt hz hky HBT
        go_enter Tryz.func12, Tryz.ntmps12
        go_wp2_with (go_at_call 32; (with_reducible refine (CK.out _).mono ?_); rintro e w2 ⟨rfl, rfl⟩)
        exact bodyPost_ret (v := .tuple #[.string ⟨#[]⟩, .int .i64 0, .bool false]) (by simp [results, Tryz.results12, go_sem]) rfl ⟨rfl, Below.refl _ _⟩
end Go.Proofs.YtkeeljjbdmmeiaaGreatDoor
