/- The sum of bytes behind bytes, as the document takes it: bit by bit, in a list of 32 truths. No conditions beyond those written. -/
import Derived.Test.YtblelfonnelglaaDoorCrcA
import Derived.Lib.UnsafeStr
import Derived.Lib.Builder
import Derived.Laws.NewBlocks
import Derived.OwnWalk
import Derived.PlainAid
namespace Go.Proofs.YtblelfonnelglaaDoor
open Go.RowKit
set_option linter.unusedSimpArgs false
set_option linter.unusedVariables false

/-- A register of 32 truths in block b. -/
def Reg (b : Nat) (f : Nat → Bool) (w : World) : Prop := ∃ arr, w.heap[b]? = some (.cells arr 51 (0, 0)) ∧ arr.size = 32 ∧ ∀ i, i < 32 → arr[i]? = some (.bool (f i))
theorem Reg.cell {b : Nat} {f : Nat → Bool} {w : World} (h : Reg b f w) (i : Nat) (hi : i < 32) : w.cell? ⟨b, i, none⟩ = some (.bool (f i)) := by
  obtain ⟨arr, hb, hs, ha⟩ := h
  rw [Lib.cell_of_heap hb]
  exact ha i hi
theorem Reg.frozen {b : Nat} {f : Nat → Bool} {w : World} (h : Reg b f w) (i : Nat) : w.frozen? ⟨b, i, none⟩ = false := by
  obtain ⟨arr, hb, hs, ha⟩ := h
  exact Lib.frozen_of_heap hb i
theorem Reg.set {b : Nat} {f g : Nat → Bool} {w : World} {i : Nat} {v : Bool} (h : Reg b f w) (hi : i < 32) (hg : ∀ j, j < 32 → g j = if j = i then v else f j) : Reg b g (w.setCell ⟨b, i, none⟩ (.bool v)) := by
  obtain ⟨arr, hb, hs, ha⟩ := h
  refine ⟨arr.setIfInBounds i (.bool v), by simp [World.setCell, Array.getElem?_modify, hb], by simpa using hs, fun j hj => ?_⟩
  rw [hg j hj]
  by_cases e : j = i
  · subst e; simp [hs, hj]
  · rw [Array.getElem?_setIfInBounds_ne (by omega), if_neg e]; exact ha j hj
theorem Reg.drew {b : Nat} {f : Nat → Bool} {w : World} (n : Nat) (h : Reg b f w) : Reg b f (w.drewN n) := h
theorem Reg.congr {b : Nat} {f g : Nat → Bool} {w : World} (h : Reg b f w) (hg : ∀ j, j < 32 → g j = f j) : Reg b g w := by
  obtain ⟨arr, hb, hs, ha⟩ := h
  exact ⟨arr, hb, hs, fun j hj => by rw [hg j hj]; exact ha j hj⟩

theorem bit_nat (c : Crc.W) (k : Nat) : c.getLsbD k = decide (c.toNat / 2 ^ k % 2 = 1) := by
  rw [BitVec.getLsbD, Nat.testBit_eq_decide_div_mod_eq]
theorem sum_bit (sum : Crc.W) (k : Nat) : ∃ (q : Nat) (bv : Bool), wi sum / 2 ^ k = (q : Int) ∧ ((q : Int) % 2 == 0) = bv ∧ decide ((q : Int) % 2 = 0) = bv ∧ Hid (k < 32 → bv = (~~~ sum).getLsbD k) := by
  refine ⟨sum.toNat / 2 ^ k, decide (sum.toNat / 2 ^ k % 2 = 0), by unfold wi; rw [Int.natCast_ediv, Int.natCast_pow]; rfl, ?_, ?_, Lib.hid fun hk => ?_⟩
  · generalize sum.toNat / 2 ^ k = q
    rw [Bool.eq_iff_iff]; simp; omega
  · generalize sum.toNat / 2 ^ k = q
    rw [Bool.eq_iff_iff]; simp; omega
  · rw [BitVec.getLsbD_not, bit_nat]
    rw [Bool.eq_iff_iff]; simp [hk]
theorem nat_bit (n k : Nat) : ∃ (q : Nat) (bv : Bool), (n : Int) / 2 ^ k = (q : Int) ∧ ((q : Int) % 2 == 1) = bv ∧ decide ((q : Int) % 2 = 1) = bv ∧ Hid (bv = n.testBit k) := by
  refine ⟨n / 2 ^ k, n.testBit k, by rw [Int.natCast_ediv, Int.natCast_pow]; rfl, ?_, ?_, Lib.hid rfl⟩
  · rw [Nat.testBit_eq_decide_div_mod_eq]
    generalize n / 2 ^ k = q
    rw [Bool.eq_iff_iff]; simp; omega
  · rw [Nat.testBit_eq_decide_div_mod_eq]
    generalize n / 2 ^ k = q
    rw [Bool.eq_iff_iff]; simp; omega
/-- The register behind one bit more, truth by truth. -/
theorem step_bit (c : Crc.W) (b : Bool) (j : Nat) (hj : j < 32) : (Crc.stepBit c b).getLsbD j = Bool.xor (if j < 31 then c.getLsbD (j + 1) else false) ((c.getLsbD 0 != b) && Crc.poly.getLsbD j) := by
  have h0 : (c ^^^ (if b then 1#32 else 0#32)).getLsbD 0 = (c.getLsbD 0 != b) := by
    rw [BitVec.getLsbD_xor]; cases b <;> simp
  have h1 : ((c ^^^ (if b then 1#32 else 0#32)) >>> 1).getLsbD j = (if j < 31 then c.getLsbD (j + 1) else false) := by
    rw [BitVec.getLsbD_ushiftRight, BitVec.getLsbD_xor]
    have : (if b then 1#32 else 0#32 : BitVec 32).getLsbD (1 + j) = false := by
      cases b
      · simp
      · rw [BitVec.getLsbD]; exact Nat.testBit_lt_two_pow (by rw [Nat.add_comm, Nat.pow_succ]; have := Nat.two_pow_pos j; simp; omega)
    rw [this, Nat.add_comm 1 j]
    by_cases h : j < 31
    · simp only [h]; simp
    · obtain rfl : j = 31 := by omega
      simp
  unfold Crc.stepBit Crc.T
  rw [BitVec.getLsbD_xor, h1, h0]
  cases (c.getLsbD 0 != b) <;> simp only [Bool.true_and, Bool.false_and] <;> simp
theorem bitsOf_get (n : Nat) : ∀ (x : Crc.W) (i : Nat), i < n → (Crc.bitsOf x n)[i]? = some (x.getLsbD i) := by
  induction n with
  | zero => intro x i h; omega
  | succ n ih =>
    intro x i h
    cases i with
    | zero => rfl
    | succ i =>
      simp only [Crc.bitsOf, List.getElem?_cons_succ]
      rw [ih _ _ (by omega), BitVec.getLsbD_ushiftRight, Nat.add_comm 1 i]
theorem bitsOf_len (n : Nat) : ∀ x : Crc.W, (Crc.bitsOf x n).length = n := by
  induction n with
  | zero => intro x; rfl
  | succ n ih => intro x; simp [Crc.bitsOf, ih]
/-- So many bits of a byte were taken. -/
def part (c : Crc.W) (b : UInt8) (m : Nat) : Crc.W := Crc.stepBits c ((Crc.bitsOf (Crc.byteW b) 8).take m)
theorem part_succ (c : Crc.W) (b : UInt8) (m : Nat) (hm : m < 8) : part c b (m + 1) = Crc.stepBit (part c b m) (b.toNat.testBit m) := by
  unfold part
  have hb : (Crc.byteW b).getLsbD m = b.toNat.testBit m := by
    unfold Crc.byteW
    rw [BitVec.getLsbD_ofNat]
    simp; omega
  rw [List.take_add_one, bitsOf_get 8 _ m hm, Crc.stepBits_append, hb]
  rfl
theorem part_end (c : Crc.W) (b : UInt8) : part c b 8 = Crc.Tn 8 (c ^^^ Crc.byteW b) := by
  unfold part
  rw [List.take_of_length_le (by rw [bitsOf_len]; omega), Crc.byte_bits]
theorem out_bit (c : Crc.W) (n : Nat) (hn : n < 32) : ∃ z : Nat, wi (~~~ c) / 2 ^ (n + 1) = (z : Int) ∧ z < 2147483648 ∧ Hid (wi (~~~ c) / 2 ^ n = 2 * (z : Int) + (if c.getLsbD n then 0 else 1)) := by
  have hb : (~~~ c).getLsbD n = !c.getLsbD n := by rw [BitVec.getLsbD_not]; simp [hn]
  rw [bit_nat (~~~ c)] at hb
  have hlt := (~~~ c).isLt
  generalize (~~~ c) = d at *
  have e1 : wi d / 2 ^ (n + 1) = ((d.toNat / 2 ^ n / 2 : Nat) : Int) := by
    unfold wi; rw [Nat.div_div_eq_div_mul, Int.natCast_ediv, Int.natCast_mul, Int.natCast_pow, Int.pow_succ]; rfl
  have e2 : wi d / 2 ^ n = ((d.toNat / 2 ^ n : Nat) : Int) := by
    unfold wi; rw [Int.natCast_ediv, Int.natCast_pow]; rfl
  refine ⟨_, e1, ?_, Lib.hid ?_⟩
  · have := Nat.div_le_self d.toNat (2 ^ n); omega
  · rw [e2]
    clear e1 e2
    generalize d.toNat / 2 ^ n = q at *
    cases h : c.getLsbD n <;> rw [h] at hb <;> simp at hb <;> simp <;> omega
set_option maxRecDepth 100000 in
set_option maxHeartbeats 4000000 in
theorem rmore_any (sum : Crc.W) (s : ByteArray) (w : World) (hs : s.size ≤ maxLen) :
    Calls Tryd.prog 15 #[.int .u32 (wi sum), .string s] w fun e w' => e = .returned (.int .u32 (wi (Crc.more sum s.data.toList))) ∧ Below w.heap.size w w' := by
  unfold maxLen at hs
  have hr := Below.refl w.heap.size w
  have HR := Lib.hid hr
  clear hr
  go_enter Tryd.func15, Tryd.ntmps15
  go_wp2_with fail
  have H0 : Reg w.heap.size (fun _ => false) (w.alloc (.cells #[.bool false, .bool false, .bool false, .bool false, .bool false, .bool false, .bool false, .bool false, .bool false, .bool false, .bool false, .bool false, .bool false, .bool false, .bool false, .bool false, .bool false, .bool false, .bool false, .bool false, .bool false, .bool false, .bool false, .bool false, .bool false, .bool false, .bool false, .bool false, .bool false, .bool false, .bool false, .bool false] 51)) :=
    ⟨_, heap_alloc_new w _, rfl, fun i hi => by
      have : ∀ i : Fin 32, (#[Value.bool false, .bool false, .bool false, .bool false, .bool false, .bool false, .bool false, .bool false, .bool false, .bool false, .bool false, .bool false, .bool false, .bool false, .bool false, .bool false, .bool false, .bool false, .bool false, .bool false, .bool false, .bool false, .bool false, .bool false, .bool false, .bool false, .bool false, .bool false, .bool false, .bool false, .bool false, .bool false] : Array Value)[i.val]? = some (.bool false) := fun i => by
        obtain ⟨i, hi⟩ := i
        rcases i with _ | _ | _ | _ | _ | _ | _ | _ | _ | _ | _ | _ | _ | _ | _ | _ | _ | _ | _ | _ | _ | _ | _ | _ | _ | _ | _ | _ | _ | _ | _ | _ | i <;> first | rfl | omega
      exact this ⟨i, hi⟩⟩
  have K0 := HR.out.alloc (Nat.le_refl _) (.cells #[.bool false, .bool false, .bool false, .bool false, .bool false, .bool false, .bool false, .bool false, .bool false, .bool false, .bool false, .bool false, .bool false, .bool false, .bool false, .bool false, .bool false, .bool false, .bool false, .bool false, .bool false, .bool false, .bool false, .bool false, .bool false, .bool false, .bool false, .bool false, .bool false, .bool false, .bool false, .bool false] 51)
  go_loopw [6] (fun i wr => ∃ k : Nat, k ≤ 32 ∧ i = .int .i64 k ∧ Reg w.heap.size (fun j => if j < k then (~~~ sum).getLsbD j else false) wr ∧ Below w.heap.size w wr) (fun i _ => 32 - (intOf i).toNat)
  case atStart => exact ⟨0, by omega, rfl, H0.congr (fun j _ => by simp), K0⟩
  case round =>
    clear H0 K0
    obtain ⟨k, hk, rfl, hreg, hbel⟩ := hrel
    by_cases hlt : k < 32
    · obtain ⟨b0, c0⟩ : ∃ b0, wr.cell? ⟨w.heap.size, k, none⟩ = some (.bool b0) := ⟨_, hreg.cell k hlt⟩
      have f0 := hreg.frozen k
      have HG := Lib.hid hreg
      have HB := Lib.hid hbel
      clear hreg hbel
      obtain ⟨q, bv, hq, hb1, hb2, hbd⟩ := sum_bit sum k
      go_wp2_with fail
      go_roundw
      case rel => exact ⟨k + 1, by omega, by go_num, HG.out.set hlt (fun j hj => by
        by_cases e : j = k
        · subst e; simp [hbd.out hlt]
        · simp only [if_neg e]
          by_cases h : j < k
          · rw [if_pos h, if_pos (by omega)]
          · rw [if_neg h, if_neg (by omega)]), HB.out.setCell (p := ⟨w.heap.size, k, none⟩) (Nat.le_refl _) _⟩
      case measure => simp [intOf]; omega
    · have hreg2 : Reg w.heap.size (fun j => (~~~ sum).getLsbD j) wr := hreg.congr (fun j hj => by rw [if_pos (by omega)])
      have HG := Lib.hid hreg2
      have HB := Lib.hid hbel
      clear hreg hbel hreg2
      go_wp2_with fail
      clear hlt hk
      obtain ⟨wo, rfl⟩ : ∃ wo : World, wo = wr := ⟨_, rfl⟩
      go_loopw [7] (fun i wr => ∃ k : Nat, k ≤ s.size ∧ i = .int .i64 k ∧ Reg w.heap.size (fun j => (Crc.run (~~~ sum) (s.data.toList.take k)).getLsbD j) wr ∧ Below w.heap.size w wr) (fun i _ => s.size - (intOf i).toNat)
      case atStart => exact ⟨0, by omega, rfl, HG.out, HB.out⟩
      case round =>
        clear HG HB
        obtain ⟨k, hk, rfl, hreg, hbel⟩ := hrel
        by_cases hlt : k < s.size
        · obtain ⟨ck, hck⟩ : ∃ c, c = Crc.run (~~~ sum) (s.data.toList.take k) := ⟨_, rfl⟩
          rw [← hck] at hreg
          have HCK := Lib.hid hck
          have HG := Lib.hid (show Reg w.heap.size (fun j => (part ck s[k] 0).getLsbD j) wr from hreg)
          have HB := Lib.hid hbel
          clear hreg hbel hck
          go_wp2_with fail
          obtain ⟨wo2, rfl⟩ : ∃ wo : World, wo = wr := ⟨_, rfl⟩
          go_loopw [8] (fun i wr => ∃ m : Nat, m ≤ 8 ∧ i = .int .i64 m ∧ Reg w.heap.size (fun j => (part ck s[k] m).getLsbD j) wr ∧ Below w.heap.size w wr) (fun i _ => 8 - (intOf i).toNat)
          case atStart => exact ⟨0, by omega, rfl, HG.out, HB.out⟩
          case round =>
            clear HG HB
            obtain ⟨m, hm, rfl, hreg, hbel⟩ := hrel
            by_cases hlm : m < 8
            · obtain ⟨c, hc⟩ : ∃ c, c = part ck s[k] m := ⟨_, rfl⟩
              rw [← hc] at hreg
              have HC := Lib.hid hc
              obtain ⟨x0, hx0⟩ : ∃ x, x = c.getLsbD 0 := ⟨_, rfl⟩
              have c0 : wr.cell? ⟨w.heap.size, 0, none⟩ = some (.bool x0) := by rw [hx0]; exact hreg.cell 0 (by omega)
              have HX := Lib.hid hx0
              have HG := Lib.hid hreg
              have HB := Lib.hid hbel
              clear hreg hbel hc hx0
              obtain ⟨q, bv, hq, hb1, hb2, hbd⟩ := nat_bit s[k].toNat m
              obtain ⟨o, ho⟩ : ∃ o, (!(x0 == bv)) = o := ⟨_, rfl⟩
              have hm8 : decide ((m : Int) < 8) = true := by simp; omega
              go_wp2_with fail
              go_quiet (fail)
              go_wp2_with fail
              clear hq hb1 hb2 c0
              have HO := Lib.hid ho
              clear ho
              have HG2 := Lib.hid (HG.out.drew nq)
              have HB2 := Lib.hid (below_drewN HB.out nq)
              clear HG HB
              obtain ⟨wo3, hwo3⟩ : ∃ wo : World, wo = wr.drewN nq := ⟨_, rfl⟩
              rw [← hwo3] at HG2 HB2
              rw [← hwo3]
              clear hwo3
              go_loopw [10] (fun i wr => ∃ n : Nat, n ≤ 31 ∧ i = .int .i64 n ∧ Reg w.heap.size (fun j => if j < n then c.getLsbD (j + 1) else c.getLsbD j) wr ∧ Below w.heap.size w wr) (fun i _ => 31 - (intOf i).toNat)
              case atStart => exact ⟨0, by omega, rfl, HG2.out.congr (fun j _ => by simp), HB2.out⟩
              case round =>
                clear HG2 HB2
                obtain ⟨n, hn, rfl, hreg, hbel⟩ := hrel
                by_cases hln : n < 31
                · obtain ⟨x1, c1⟩ : ∃ x, wr.cell? ⟨w.heap.size, n, none⟩ = some (.bool x) := ⟨_, hreg.cell n (by omega)⟩
                  obtain ⟨x2, c2, hx2⟩ : ∃ x, wr.cell? ⟨w.heap.size, n + 1, none⟩ = some (.bool x) ∧ Hid (x = c.getLsbD (n + 1)) := ⟨_, hreg.cell (n + 1) (by omega), Lib.hid (by rw [if_neg (by omega)])⟩
                  have f1 := hreg.frozen n
                  have HG := Lib.hid hreg
                  have HB := Lib.hid hbel
                  clear hreg hbel
                  go_wp2_with fail
                  go_roundw
                  case rel => exact ⟨n + 1, by omega, by go_num, HG.out.set (by omega) (fun j hj => by
                    by_cases e : j = n
                    · subst e; rw [if_pos (by omega), if_pos rfl, hx2.out]
                    · rw [if_neg e]
                      by_cases h : j < n
                      · rw [if_pos h, if_pos (by omega)]
                      · rw [if_neg h, if_neg (by omega)]), HB.out.setCell (p := ⟨w.heap.size, n, none⟩) (Nat.le_refl _) _⟩
                  case measure => simp [intOf]; omega
                · obtain ⟨x1, c1⟩ : ∃ x, wr.cell? ⟨w.heap.size, 31, none⟩ = some (.bool x) := ⟨_, hreg.cell 31 (by omega)⟩
                  have f1 := hreg.frozen 31
                  have HG := Lib.hid (hreg.set (v := false) (i := 31) (g := fun j => if j < 31 then c.getLsbD (j + 1) else false) (by omega) (fun j hj => by
                    by_cases e : j = 31
                    · subst e; simp
                    · rw [if_neg e, if_pos (by omega), if_pos (by omega)]))
                  have HB := Lib.hid (hbel.setCell (p := ⟨w.heap.size, 31, none⟩) (Nat.le_refl _) (.bool false))
                  clear hreg hbel
                  go_wp2_with fail
                  clear hln hn
                  obtain ⟨wo4, hwo4⟩ : ∃ wo : World, wo = wr.setCell ⟨w.heap.size, 31, none⟩ (.bool false) := ⟨_, rfl⟩
                  rw [← hwo4] at HG HB
                  rw [← hwo4]
                  clear hwo4 c1 f1
                  have HN : Hid (∀ j, j < 32 → (part ck s[k] (m + 1)).getLsbD j = Bool.xor (if j < 31 then c.getLsbD (j + 1) else false) (o && Crc.poly.getLsbD j)) := Lib.hid (fun j hj => by
                    rw [part_succ _ _ _ hlm, ← HC.out, step_bit _ _ _ hj, ← HX.out, ← hbd.out, ← HO.out]; rfl)
                  cases o with
                  | false =>
                    go_loopw [11] (fun i wr => i = .int .i64 0 ∧ Reg w.heap.size (fun j => if j < 31 then c.getLsbD (j + 1) else false) wr ∧ Below w.heap.size w wr) (fun i _ => 31 - (intOf i).toNat)
                    case atStart => exact ⟨rfl, HG.out, HB.out⟩
                    case round =>
                      clear HG HB
                      obtain ⟨rfl, hreg, hbel⟩ := hrel
                      have HG := Lib.hid hreg
                      have HB := Lib.hid hbel
                      clear hreg hbel
                      go_wp2_with fail
                      go_roundw
                      case rel => exact ⟨m + 1, by omega, by go_num, HG.out.congr (fun j hj => by rw [HN.out j hj]; simp), HB.out⟩
                      case measure => simp [intOf]; omega
                  | true =>
                    go_loopw [11] (fun i wr => ∃ n : Nat, n ≤ 32 ∧ i = .int .i64 n ∧ Reg w.heap.size (fun j => Bool.xor (if j < 31 then c.getLsbD (j + 1) else false) (decide (j < n) && Crc.poly.getLsbD j)) wr ∧ Below w.heap.size w wr) (fun i _ => 32 - (intOf i).toNat)
                    case atStart => exact ⟨0, by omega, rfl, HG.out.congr (fun j _ => by simp), HB.out⟩
                    case round =>
                      clear HG HB
                      obtain ⟨n, hn, rfl, hreg, hbel⟩ := hrel
                      by_cases hln : n < 32
                      · obtain ⟨x1, c1, hx1⟩ : ∃ x, wr.cell? ⟨w.heap.size, n, none⟩ = some (.bool x) ∧ Hid (x = (if n < 31 then c.getLsbD (n + 1) else false)) := ⟨_, hreg.cell n (by omega), Lib.hid (by simp)⟩
                        have f1 := hreg.frozen n
                        have HG := Lib.hid hreg
                        have HB := Lib.hid hbel
                        clear hreg hbel
                        obtain ⟨q, pv, hq, hb1, hb2, hbd'⟩ := nat_bit 2197175160 n
                        have hq' : (2197175160 : Int) / 2 ^ n = (q : Int) := hq
                        clear hq
                        cases pv with
                        | false =>
                          go_wp2_with fail
                          go_roundw
                          case rel => exact ⟨n + 1, by omega, by go_num, HG.out.congr (fun j hj => by
                            by_cases e : j = n
                            · subst e
                              have : Crc.poly.getLsbD j = false := by rw [BitVec.getLsbD]; exact hbd'.out.symm
                              simp [this]
                            · have : decide (j < n + 1) = decide (j < n) := by rw [Bool.eq_iff_iff]; simp; omega
                              rw [this]), HB.out⟩
                          case measure => simp [intOf]; omega
                        | true =>
                          go_wp2_with fail
                          go_roundw
                          case rel => exact ⟨n + 1, by omega, by go_num, HG.out.set hln (fun j hj => by
                            by_cases e : j = n
                            · subst e
                              have : Crc.poly.getLsbD j = true := by rw [BitVec.getLsbD]; exact hbd'.out.symm
                              rw [this, if_pos rfl, hx1.out]; simp
                            · have : decide (j < n + 1) = decide (j < n) := by rw [Bool.eq_iff_iff]; simp; omega
                              rw [this, if_neg e]), HB.out.setCell (p := ⟨w.heap.size, n, none⟩) (Nat.le_refl _) _⟩
                          case measure => simp [intOf]; omega
                      · obtain rfl : n = 32 := by omega
                        have HG := Lib.hid hreg
                        have HB := Lib.hid hbel
                        clear hreg hbel hln hn
                        go_wp2_with fail
                        go_roundw
                        case rel => exact ⟨m + 1, by omega, by go_num, HG.out.congr (fun j hj => by rw [HN.out j hj]; simp [hj]), HB.out⟩
                        case measure => simp [intOf]; omega
            · obtain rfl : m = 8 := by omega
              have HG := Lib.hid hreg
              have HB := Lib.hid hbel
              clear hreg hbel hlm hm
              go_wp2_with fail
              go_roundw
              case rel => exact ⟨k + 1, by omega, by go_num, HG.out.congr (fun j hj => by
                rw [part_end, take_snoc s k hlt, Crc.run_append, ← HCK.out]; rfl), HB.out⟩
              case measure => simp [intOf]; omega
        · obtain rfl : k = s.size := by omega
          obtain ⟨ck, hck⟩ : ∃ c, c = Crc.run (~~~ sum) (s.data.toList.take s.size) := ⟨_, rfl⟩
          rw [← hck] at hreg
          have HCK := Lib.hid hck
          have HG := Lib.hid hreg
          have HB := Lib.hid hbel
          clear hreg hbel hck hk hlt
          go_wp2_with fail
          obtain ⟨wo5, rfl⟩ : ∃ wo : World, wo = wr := ⟨_, rfl⟩
          go_loopw [12, 13] (fun x i wr => ∃ n : Nat, n ≤ 32 ∧ i = .int .i64 ((n : Int) - 1) ∧ x = .int .u32 (wi (~~~ ck) / 2 ^ n) ∧ Reg w.heap.size (fun j => ck.getLsbD j) wr ∧ Below w.heap.size w wr) (fun _ i _ => (intOf i + 1).toNat)
          case atStart => exact ⟨32, by omega, rfl, by rw [show wi (~~~ ck) / 2 ^ 32 = 0 from Int.ediv_eq_zero_of_lt (wi_lo _) (wi_hi _)], HG.out, HB.out⟩
          case round =>
            clear HG HB
            obtain ⟨n, hn, rfl, rfl, hreg, hbel⟩ := hrel
            cases n with
            | zero =>
              go_wp2_with fail
              go_ret
              refine ⟨?_, hbel⟩
              have e : Crc.more sum s.data.toList = ~~~ ck := by
                unfold Crc.more; rw [HCK.out, List.take_of_length_le (by simp)]
              rw [e]; simp
            | succ n =>
              obtain ⟨x1, c1, hx1⟩ : ∃ x, wr.cell? ⟨w.heap.size, n, none⟩ = some (.bool x) ∧ Hid (x = ck.getLsbD n) := ⟨_, hreg.cell n (by omega), Lib.hid rfl⟩
              obtain ⟨z, hz, hz1, hz2⟩ := out_bit ck n (by omega)
              have HG := Lib.hid hreg
              have HB := Lib.hid hbel
              clear hreg hbel
              rw [hz]
              have HZ := Lib.hid hz
              clear hz
              cases x1 with
              | false =>
                go_wp2_with fail
                go_roundw
                case rel => exact ⟨n, by omega, rfl, by rw [hz2.out, ← hx1.out]; rfl, HG.out, HB.out⟩
                case measure => simp [intOf]
              | true =>
                go_wp2_with fail
                go_roundw
                case rel => exact ⟨n, by omega, rfl, by rw [hz2.out, ← hx1.out]; simp, HG.out, HB.out⟩
                case measure => simp [intOf]
end Go.Proofs.YtblelfonnelglaaDoor
