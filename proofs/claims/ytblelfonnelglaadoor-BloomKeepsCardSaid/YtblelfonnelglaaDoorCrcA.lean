/- The sum of bytes behind bytes, as package crc takes it: it only reads its table. No conditions beyond those written. -/
import Derived.Test.YtblelfonnelglaaDoorHelp
import Derived.Test.YtblelfonnelglaaDoorCrcM
import Derived.Deep.QuietTactic
import Derived.BigQuiet
import Derived.Laws.BitsAllLaws
import Derived.IntWalk
import Derived.Outline
namespace Go.Proofs.YtblelfonnelglaaDoor
open Go.RowKit
set_option linter.unusedSimpArgs false
set_option linter.unusedVariables false

/-- A word as the number that it is. -/
def wi (c : Crc.W) : Int := c.toNat
theorem wi_lo (c : Crc.W) : 0 ≤ wi c := by unfold wi; omega
theorem wi_hi (c : Crc.W) : wi c < 4294967296 := by have := c.isLt; unfold wi; omega
theorem bx (a b : Crc.W) : bits .xor .u32 (wi a) (wi b) = wi (a ^^^ b) := by
  unfold wi; rw [u32_xor_nat _ _ a.isLt b.isLt, BitVec.toNat_xor]
theorem bnot (a : Crc.W) : bits .xor .u32 IntKind.u32.max (wi a) = wi (~~~ a) := by
  have h : (IntKind.u32.max : Int) = wi (BitVec.allOnes 32) := by decide
  rw [h, bx, BitVec.allOnes_xor]
theorem bor (a b : Crc.W) : bits .or .u32 (wi a) (wi b) = wi (a ||| b) := by
  unfold wi; rw [u32_or_nat _ _ a.isLt b.isLt, BitVec.toNat_or]
theorem wshl (a : Crc.W) (k : Nat) (m : Int) (hm : m = ((2 ^ k : Nat) : Int)) : IntKind.u32.wrap (wi a * m) = wi (a <<< k) := by
  subst hm
  unfold wi
  rw [IntKind.wrap_u32', BitVec.toNat_shiftLeft, Nat.shiftLeft_eq]
  simp
theorem wbyte (b : UInt8) : IntKind.u32.wrap (b.toNat : Int) = wi (Crc.byteW b) := by
  have := b.toNat_lt
  unfold wi
  rw [IntKind.wrap_u32']
  simp only [Crc.byteW, BitVec.toNat_ofNat]; omega
theorem or_xor (x y : Crc.W) (k : Nat) (h : x.toNat < 2 ^ k) : x ||| (y <<< k) = x ^^^ (y <<< k) := by
  apply BitVec.eq_of_getLsbD_eq
  intro i hi
  rw [BitVec.getLsbD_or, BitVec.getLsbD_xor, BitVec.getLsbD_shiftLeft]
  by_cases hk : i < k
  · simp [hk]
  · have : x.getLsbD i = false := by
      rw [BitVec.getLsbD]; exact Nat.testBit_lt_two_pow (Nat.lt_of_lt_of_le h (Nat.pow_le_pow_right (by decide) (by omega)))
    rw [this]; simp
theorem word_or (a b c d : UInt8) : ((Crc.byteW a ||| Crc.byteW b <<< 8) ||| Crc.byteW c <<< 16) ||| Crc.byteW d <<< 24 = Crc.word a b c d := by
  have ha := Crc.byteW_lt a
  have hb := Crc.byteW_lt b
  have hc := Crc.byteW_lt c
  have h1 : (Crc.byteW a ^^^ Crc.byteW b <<< 8).toNat < 2 ^ 16 := Crc.xor_toNat _ _ 16 (by omega) (Crc.shl_toNat _ 8 8 hb)
  have h2 : (Crc.byteW a ^^^ Crc.byteW b <<< 8 ^^^ Crc.byteW c <<< 16).toNat < 2 ^ 24 := Crc.xor_toNat _ _ 24 (by omega) (Crc.shl_toNat _ 16 8 hc)
  rw [or_xor _ _ 8 (by omega), or_xor _ _ 16 h1, or_xor _ _ 24 h2]
  unfold Crc.word
  simp only [BitVec.xor_assoc]
theorem word_eq (c : Crc.W) (a b d e : UInt8) : bits .xor .u32 (wi c) (bits .or .u32 (bits .or .u32 (bits .or .u32 (wi (Crc.byteW a)) (IntKind.u32.wrap (wi (Crc.byteW b) * 256))) (IntKind.u32.wrap (wi (Crc.byteW d) * 65536))) (IntKind.u32.wrap (wi (Crc.byteW e) * 16777216))) = wi (c ^^^ Crc.word a b d e) := by
  rw [wshl _ 8 256 (by decide), wshl _ 16 65536 (by decide), wshl _ 24 16777216 (by decide), bor, bor, bor, word_or, bx]
theorem word_eq' (c : Crc.W) (a b d e : UInt8) : bits .xor .u32 (wi c) (bits .or .u32 (bits .or .u32 (bits .or .u32 (wi (Crc.byteW a)) (wi (Crc.byteW b) * 256 % 4294967296)) (wi (Crc.byteW d) * 65536 % 4294967296)) (wi (Crc.byteW e) * 16777216 % 4294967296)) = wi (c ^^^ Crc.word a b d e) := by
  have := word_eq c a b d e
  simpa only [IntKind.wrap_u32'] using this
theorem and15 (n : Nat) (h : n < 4294967296) : bits .and .u32 (n : Int) 15 = ((n % 16 : Nat) : Int) := by
  rw [show (15 : Int) = ((15 : Nat) : Int) by rfl, u32_and_nat _ _ h (by decide)]
  congr 1
  rw [show (15 : Nat) = 2 ^ 4 - 1 by rfl, Nat.and_two_pow_sub_one_eq_mod]
theorem nib0 (d : Crc.W) : bits .and .u32 (wi d) 15 = ((d.toNat % 16 : Nat) : Int) := and15 _ d.isLt
theorem nibk (d : Crc.W) (m : Nat) : bits .and .u32 (wi d / (m : Int)) 15 = ((d.toNat / m % 16 : Nat) : Int) := by
  have e : wi d / (m : Int) = ((d.toNat / m : Nat) : Int) := by unfold wi; omega
  rw [e]; exact and15 _ (Nat.lt_of_le_of_lt (Nat.div_le_self _ _) d.isLt)
/-- The table's cells. -/
def TabAt (w : World) : Prop := ∀ j v, j < 8 → v < 16 → w.cell? ⟨0, 16 * j + v, none⟩ = some (.int .u32 (wi (Crc.tb j v)))
theorem tab_cell {w : World} (h : TabAt w) (j v o : Nat) (hj : j < 8) (hv : v < 16) (ho : o = 16 * j + v) : ∃ y, Hid (y = Crc.tb j v) ∧ w.cell? ⟨0, o, none⟩ = some (.int .u32 (wi y)) :=
  ⟨_, Lib.hid rfl, by subst ho; exact h j v hj hv⟩
theorem nib_any (d : Crc.W) (m : Nat) (M : Int) (hM : M = (m : Int)) : ∃ v : Nat, v < 16 ∧ (v : Int) < 16 ∧ Hid (v = d.toNat / m % 16) ∧ bits .and .u32 (wi d / M) 15 = (v : Int) :=
  ⟨d.toNat / m % 16, by omega, by omega, Lib.hid rfl, by rw [hM]; exact nibk d m⟩
theorem nib_low (d : Crc.W) : ∃ v : Nat, v < 16 ∧ (v : Int) < 16 ∧ Hid (v = d.toNat % 16) ∧ bits .and .u32 (wi d) 15 = (v : Int) :=
  ⟨d.toNat % 16, by omega, by omega, Lib.hid rfl, nib0 d⟩
theorem nib_top (d : Crc.W) : ∃ v : Nat, v < 16 ∧ (v : Int) < 16 ∧ Hid (v = d.toNat / 268435456) ∧ wi d / 268435456 = (v : Int) :=
  ⟨d.toNat / 268435456, by have := d.isLt; omega, by have := d.isLt; omega, Lib.hid rfl, by unfold wi; omega⟩
theorem four_list (t : ByteArray) (h : 4 ≤ t.size) : t.data.toList = t[0] :: t[1] :: t[2] :: t[3] :: (t.extract 4 t.size).data.toList := by
  apply List.ext_getElem
  · simp; omega
  · intro i h1 h2
    match i with
    | 0 => rfl
    | 1 => rfl
    | 2 => rfl
    | 3 => rfl
    | i + 4 => simp [ByteArray.data_extract, Nat.add_comm]
theorem word_round {c d y0 y1 y2 y3 y4 y5 y6 y7 : Crc.W} {v0 v1 v2 v3 v4 v5 v6 v7 : Nat} {t : ByteArray} (h4 : 4 ≤ t.size) (hd : Hid (d = c ^^^ Crc.word t[0] t[1] t[2] t[3]))
    (h0 : Hid (v0 = d.toNat % 16)) (h1 : Hid (v1 = d.toNat / 16 % 16)) (h2 : Hid (v2 = d.toNat / 256 % 16)) (h3 : Hid (v3 = d.toNat / 4096 % 16)) (h4' : Hid (v4 = d.toNat / 65536 % 16)) (h5 : Hid (v5 = d.toNat / 1048576 % 16)) (h6 : Hid (v6 = d.toNat / 16777216 % 16)) (h7 : Hid (v7 = d.toNat / 268435456))
    (g0 : Hid (y0 = Crc.tb 0 v0)) (g1 : Hid (y1 = Crc.tb 1 v1)) (g2 : Hid (y2 = Crc.tb 2 v2)) (g3 : Hid (y3 = Crc.tb 3 v3)) (g4 : Hid (y4 = Crc.tb 4 v4)) (g5 : Hid (y5 = Crc.tb 5 v5)) (g6 : Hid (y6 = Crc.tb 6 v6)) (g7 : Hid (y7 = Crc.tb 7 v7)) {r : Crc.W}
    (hr : Crc.run c t.data.toList = r) : Crc.run (y0 ^^^ y1 ^^^ y2 ^^^ y3 ^^^ y4 ^^^ y5 ^^^ y6 ^^^ y7) (t.extract 4 t.size).data.toList = r := by
  rw [← hr, four_list t h4, Crc.run_word, ← hd.out, Crc.T32_tab d, g0.out, g1.out, g2.out, g3.out, g4.out, g5.out, g6.out, g7.out, h0.out, h1.out, h2.out, h3.out, h4'.out, h5.out, h6.out, h7.out]
theorem wshr8 (d : Crc.W) : wi d / (256 : Int) = wi (d >>> 8) := by
  unfold wi; rw [BitVec.toNat_ushiftRight, Nat.shiftRight_eq_div_pow]; omega
theorem byte_eq (c : Crc.W) (b : UInt8) : bits .xor .u32 (wi c) ((b.toNat : Int) % 4294967296) = wi (c ^^^ Crc.byteW b) := by
  rw [← bx, ← wbyte, IntKind.wrap_u32']
theorem drews3 (w : World) (a b c : Nat) : ∃ n, ((w.drewN a).drewN b).drewN c = w.drewN n := ⟨_, by rw [World.drewN_drewN, World.drewN_drewN]⟩
theorem drews2 (w : World) (a b : Nat) : ∃ n, (w.drewN a).drewN b = w.drewN n := ⟨_, by rw [World.drewN_drewN]⟩
theorem take_snoc (s : ByteArray) (k : Nat) (h : k < s.size) : s.data.toList.take (k + 1) = s.data.toList.take k ++ [s[k]] := by
  rw [List.take_succ_eq_append_getElem (by simpa using h)]; rfl
theorem byte_round {c d y6 y7 : Crc.W} {v0 v1 k : Nat} {t : ByteArray} (hk : k < t.size) (hd : Hid (d = c ^^^ Crc.byteW t[k])) (h0 : Hid (v0 = d.toNat % 16)) (h1 : Hid (v1 = d.toNat / 16 % 16))
    (g6 : Hid (y6 = Crc.tb 6 v0)) (g7 : Hid (y7 = Crc.tb 7 v1)) {c0 : Crc.W} (hr : c = Crc.run c0 (t.data.toList.take k)) : d >>> 8 ^^^ y6 ^^^ y7 = Crc.run c0 (t.data.toList.take (k + 1)) := by
  rw [take_snoc t k hk, Crc.run_append, ← hr]
  simp only [Crc.run]
  rw [← hd.out, Crc.T8_tab d, g6.out, g7.out, h0.out, h1.out, BitVec.xor_assoc]
set_option maxRecDepth 100000 in
set_option maxHeartbeats 4000000 in
theorem more_any (sum : Crc.W) (s : ByteArray) (w : World) (hs : s.size ≤ maxLen) (hT : TabAt w) :
    Calls Tryd.prog 16 #[.int .u32 (wi sum), .string s] w fun e w' => e = .returned (.int .u32 (wi (Crc.more sum s.data.toList))) ∧ ∃ n, w' = w.drewN n := by
  unfold maxLen at hs
  have HT := Lib.hid hT
  clear hT
  go_enter Tryd.func16, Tryd.ntmps16
  have hn := bnot sum
  go_wp2_with fail
  clear hn
  go_loopw [1, 5] (fun t c wr => ∃ (tv : ByteArray) (cv : Crc.W), t = .string tv ∧ c = .int .u32 (wi cv) ∧ tv.size ≤ s.size ∧ Crc.run cv tv.data.toList = Crc.run (~~~ sum) s.data.toList ∧ ∃ n, wr = w.drewN n) (fun t _ _ => match t with | .string t => t.size | _ => 0)
  case atStart => exact ⟨s, ~~~ sum, rfl, rfl, Nat.le_refl _, rfl, 0, rfl⟩
  case round =>
    obtain ⟨t, c, rfl, rfl, hts, hrun, n, rfl⟩ := hrel
    have HR := Lib.hid hrun
    clear hrun
    by_cases h4 : 4 ≤ t.size
    · go_wp2_with fail
      have k0 : 0 < t.size := by omega
      have k1 : 1 < t.size := by omega
      have k2 : 2 < t.size := by omega
      have k3 : 3 < t.size := by omega
      have i1 : (1 : Int) < t.size := by omega
      have i2 : (2 : Int) < t.size := by omega
      have i3 : (3 : Int) < t.size := by omega
      have e0 := wbyte t[0]
      have e1 := wbyte t[1]
      have e2 := wbyte t[2]
      have e3 := wbyte t[3]
      obtain ⟨d, hd⟩ : ∃ d, d = c ^^^ Crc.word t[0] t[1] t[2] t[3] := ⟨_, rfl⟩
      have ew := word_eq' c t[0] t[1] t[2] t[3]
      rw [← hd] at ew
      have HD := Lib.hid hd
      clear hd
      go_quiet (fail)
      clear ew e0 e1 e2 e3
      go_wp2_with fail
      obtain ⟨v0, l0, m0, h0, n0⟩ := nib_low d
      obtain ⟨v1, l1, m1, h1, n1⟩ := nib_any d 16 16 (by rfl)
      obtain ⟨v2, l2, m2, h2, n2⟩ := nib_any d 256 256 (by rfl)
      obtain ⟨v3, l3, m3, h3, n3⟩ := nib_any d 4096 4096 (by rfl)
      obtain ⟨v4, l4, m4, h4', n4⟩ := nib_any d 65536 65536 (by rfl)
      obtain ⟨v5, l5, m5, h5, n5⟩ := nib_any d 1048576 1048576 (by rfl)
      obtain ⟨v6, l6, m6, h6, n6⟩ := nib_any d 16777216 16777216 (by rfl)
      obtain ⟨v7, l7, m7, h7, n7⟩ := nib_top d
      have dlo := wi_lo d
      have dhi := wi_hi d
      obtain ⟨y0, g0, c0⟩ := tab_cell HT.out 0 v0 v0 (by omega) l0 (by omega)
      obtain ⟨y1, g1, c1⟩ := tab_cell HT.out 1 v1 (16 + v1) (by omega) l1 (by omega)
      obtain ⟨y2, g2, c2⟩ := tab_cell HT.out 2 v2 (32 + v2) (by omega) l2 (by omega)
      obtain ⟨y3, g3, c3⟩ := tab_cell HT.out 3 v3 (48 + v3) (by omega) l3 (by omega)
      obtain ⟨y4, g4, c4⟩ := tab_cell HT.out 4 v4 (64 + v4) (by omega) l4 (by omega)
      obtain ⟨y5, g5, c5⟩ := tab_cell HT.out 5 v5 (80 + v5) (by omega) l5 (by omega)
      obtain ⟨y6, g6, c6⟩ := tab_cell HT.out 6 v6 (96 + v6) (by omega) l6 (by omega)
      obtain ⟨y7, g7, c7⟩ := tab_cell HT.out 7 v7 (112 + v7) (by omega) l7 (by omega)
      have hb := bx
      go_quiet (fail)
      clear hb c0 c1 c2 c3 c4 c5 c6 c7 n0 n1 n2 n3 n4 n5 n6 n7
      go_wp2_with fail
      go_roundw
      case rel => exact ⟨_, _, rfl, rfl, by simp; omega, word_round h4 HD h0 h1 h2 h3 h4' h5 h6 h7 g0 g1 g2 g3 g4 g5 g6 g7 HR.out, _, rfl⟩
      case measure => simp; omega
    · have hr0 : c = Crc.run c (t.data.toList.take 0) := rfl
      have HC := Lib.hid hr0
      clear hr0
      go_wp2_with fail
      go_loopw [5, 89] (fun d i wr => ∃ (k : Nat) (dv : Crc.W), k ≤ t.size ∧ i = .int .i64 k ∧ d = .int .u32 (wi dv) ∧ Hid (dv = Crc.run c (t.data.toList.take k)) ∧ ∃ n, wr = w.drewN n) (fun _ i _ => t.size - (intOf i).toNat)
      case atStart => exact ⟨0, c, by omega, rfl, rfl, HC, n, rfl⟩
      case round =>
        obtain ⟨k, dv, hk, rfl, rfl, hdv, n', rfl⟩ := hrel
        by_cases hlt : k < t.size
        · have eb := byte_eq dv t[k]
          obtain ⟨d, hd⟩ : ∃ d, d = dv ^^^ Crc.byteW t[k] := ⟨_, rfl⟩
          rw [← hd] at eb
          have HD := Lib.hid hd
          clear hd
          go_wp2_with fail
          clear eb
          obtain ⟨v0, l0, m0, h0, n0⟩ := nib_low d
          obtain ⟨v1, l1, m1, h1, n1⟩ := nib_any d 16 16 (by rfl)
          obtain ⟨y6, g6, c6⟩ := tab_cell HT.out 6 v0 (96 + v0) (by omega) l0 (by omega)
          obtain ⟨y7, g7, c7⟩ := tab_cell HT.out 7 v1 (112 + v1) (by omega) l1 (by omega)
          have dlo := wi_lo d
          have dhi := wi_hi d
          have hb := bx
          go_quiet (fail)
          clear hb c6 c7 n0 n1
          go_wp2_with fail
          go_roundw
          case rel => exact ⟨k + 1, d >>> 8 ^^^ y6 ^^^ y7, by omega, by go_num, by rw [wshr8, bx, bx], Lib.hid (byte_round hlt HD h0 h1 g6 g7 hdv.out), _, rfl⟩
          case measure => simp [intOf]; omega
        · obtain rfl : k = t.size := by omega
          have hbn := bnot dv
          go_wp2_with fail
          go_ret
          refine ⟨?_, n', rfl⟩
          have e := hdv.out
          rw [List.take_of_length_le (by simp), HR.out] at e
          rw [e]
          rfl
end Go.Proofs.YtblelfonnelglaaDoor
