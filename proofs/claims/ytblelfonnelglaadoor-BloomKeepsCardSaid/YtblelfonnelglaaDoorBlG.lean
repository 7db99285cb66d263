/- The filter of keys, as the document makes it; whether keys are more than are asked of. No conditions beyond those written. -/
import Derived.Test.YtblelfonnelglaaDoorLBl1
namespace Go.Proofs.YtblelfonnelglaaDoor
open Go.RowKit
set_option linter.unusedSimpArgs false
set_option linter.unusedVariables false

def GreatPost8 (n : Nat) (xs : List ByteArray) (e : Ending) : Prop := ∃ g : Bool, e = .returned (.bool g) ∧ (g = false → n ≤ 300 ∧ ∀ x ∈ xs, x.size ≤ 300)
set_option maxRecDepth 100000 in
set_option maxHeartbeats 2000000 in
theorem great8_any (ao : Option Addr) (cap : Nat) (xs : List ByteArray) (hx : ∀ x ∈ xs, x.size ≤ maxLen) (hn : xs.length ≤ maxLen) (B : Nat) (w : World) (h : SAt B ao (strs xs) w) :
    Calls Tryd.prog 33 #[.slice ao xs.length cap] w fun e w' => GreatPost8 xs.length xs e ∧ w = w' := by
  obtain ⟨n, hnn⟩ : ∃ n : Nat, n = xs.length := ⟨_, rfl⟩
  have H := Lib.hid h
  have HX := Lib.hid hx
  have HNN := Lib.hid hnn
  rw [← hnn] at hn ⊢
  unfold maxLen at hn
  clear h hx hnn
  go_enter Tryd.func33, Tryd.ntmps33
  go_wp2_with fail
  · go_ret
    exact ⟨⟨true, rfl, fun h => by cases h⟩, rfl⟩
  · go_loop [3] (fun i => ∃ k : Nat, k ≤ n ∧ i = .int .i64 k ∧ Hid (∀ j, j < k → ∀ x, xs[j]? = some x → x.size ≤ 300)) (fun i => n - (intOf i).toNat)
    case atStart => exact ⟨0, by omega, rfl, Lib.hid (fun j hj => absurd hj (by omega))⟩
    case round =>
      obtain ⟨k, hk, rfl, HK⟩ := hrel
      by_cases hlt : k < n
      · have hkx : k < xs.length := by rw [← HNN.out]; exact hlt
        have hl : (strs xs).length = xs.length := by simp [strs]
        obtain ⟨a, rfl⟩ := H.out.1 (by omega)
        have hc : w.cell? (a.add k) = some (.string xs[k]) := (H.out.2 a rfl (by omega)).2 k _ (by simp [strs, hkx])
        have hz : xs[k].size ≤ 9223372036854775807 := by have := HX.out xs[k] (List.getElem_mem hkx); unfold maxLen at this; omega
        have HXK := Lib.hid (show xs[k]? = some xs[k] by simp [hkx])
        generalize xs[k] = x at *
        clear hl
        by_cases h4 : x.size ≤ 300
        · go_wp2_with fail
          go_round
          case rel =>
            refine ⟨k + 1, by omega, by go_num, Lib.hid (fun j hj y hy => ?_)⟩
            by_cases hjk : j < k
            · exact HK.out j hjk y hy
            · obtain rfl : j = k := by omega
              rw [HXK.out] at hy; cases hy; exact h4
          case measure => simp [intOf]; omega
        · go_wp2_with fail
          go_ret
          exact ⟨⟨true, rfl, fun h => by cases h⟩, rfl⟩
      · obtain rfl : k = n := by omega
        go_wp2_with fail
        go_ret
        refine ⟨⟨false, rfl, fun _ => ⟨by omega, fun x hx => ?_⟩⟩, rfl⟩
        obtain ⟨j, hj, e⟩ := List.getElem_of_mem hx
        exact HK.out j (by rw [HNN.out]; exact hj) x (by rw [List.getElem?_eq_getElem hj, e])


/-- So many truths in block b. -/
def BArr (b m : Nat) (f : Nat → Bool) (w : World) : Prop := ∃ arr, w.heap[b]? = some (.cells arr 4 (0, 0)) ∧ arr.size = m ∧ ∀ i, i < m → arr[i]? = some (.bool (f i))
theorem BArr.cell {b m : Nat} {f : Nat → Bool} {w : World} (h : BArr b m f w) (i : Nat) (hi : i < m) : w.cell? ⟨b, i, none⟩ = some (.bool (f i)) := by
  obtain ⟨arr, hb, hs, ha⟩ := h
  rw [Lib.cell_of_heap hb]
  exact ha i hi
theorem BArr.frozen {b m : Nat} {f : Nat → Bool} {w : World} (h : BArr b m f w) (i : Nat) : w.frozen? ⟨b, i, none⟩ = false := by
  obtain ⟨arr, hb, hs, ha⟩ := h
  exact Lib.frozen_of_heap hb i
theorem BArr.set {b m : Nat} {f g : Nat → Bool} {w : World} {i : Nat} {v : Bool} (h : BArr b m f w) (hi : i < m) (hg : ∀ j, j < m → g j = if j = i then v else f j) : BArr b m g (w.setCell ⟨b, i, none⟩ (.bool v)) := by
  obtain ⟨arr, hb, hs, ha⟩ := h
  refine ⟨arr.setIfInBounds i (.bool v), by simp [World.setCell, Array.getElem?_modify, hb], by simpa using hs, fun j hj => ?_⟩
  rw [hg j hj]
  by_cases e : j = i
  · subst e; simp [hs, hj]
  · rw [Array.getElem?_setIfInBounds_ne (by omega), if_neg e]; exact ha j hj
theorem BArr.congr {b m : Nat} {f g : Nat → Bool} {w : World} (h : BArr b m f w) (hg : ∀ j, j < m → g j = f j) : BArr b m g w := by
  obtain ⟨arr, hb, hs, ha⟩ := h
  exact ⟨arr, hb, hs, fun j hj => by rw [hg j hj]; exact ha j hj⟩
theorem BArr.lt {b m : Nat} {f : Nat → Bool} {w : World} (h : BArr b m f w) : b < w.heap.size := by
  obtain ⟨arr, h1, _⟩ := h
  exact (Array.getElem?_eq_some_iff.1 h1).1
theorem BArr.next {b m : Nat} {f : Nat → Bool} {w w' : World} (h : BArr b m f w) (k : Below w.heap.size w w') : BArr b m f w' := by
  have hl := h.lt
  obtain ⟨arr, h1, h2⟩ := h
  exact ⟨arr, (k.block b hl).trans h1, h2⟩
theorem BArr.other {b c m i : Nat} {f : Nat → Bool} {v : Value} {w : World} (h : BArr b m f w) (hb : c ≠ b) : BArr b m f (w.setCell ⟨c, i, none⟩ v) := by
  obtain ⟨arr, h1, h2⟩ := h
  exact ⟨arr, by rw [Below.heap_setCell _ _ _ _ (by simpa using hb.symm)]; exact h1, h2⟩
theorem boolInfo : (Tryd.prog.info? 4).map (fun i => (i.zero, i.size, i.bytes)) = some (some (.bool false), 1, 1) := by kernel_rfl
theorem make_bools (z : Nat) (hz : z ≤ 1000000000) : ∃ Z : Array Value, Z.size = z ∧ (∀ i, i < z → Z[i]? = some (.bool false)) ∧ ∀ w, (Instr.makeSlice 63 (.int .i64 (z : Int)) (.int .i64 (z : Int))).run Tryd.prog w = .ok (.slice (some ⟨w.heap.size, 0, none⟩) z z) (w.alloc (.cells Z 4)) := by
  obtain ⟨i0, hi, hz0, hz1, hz2⟩ := info_parts boolInfo
  refine ⟨madeCells #[.bool false] z, size_madeCells _ _, fun i hi => made_one _ _ _ hi, fun w => ?_⟩
  have := run_make (P := Tryd.prog) w 63 4 i0 (.bool false) Tryd.underlying63 hi hz0 .i64 .i64 z z (by omega) (by omega) (by rw [hz2]; omega) (by omega)
  rw [hz1, Int.toNat_natCast, Nat.mul_one] at this
  exact this
/-- The bits that are set, byte by byte. -/
def bt (set : Nat → Bool) (z : Nat) : Nat → List UInt8
  | 0 => List.replicate z 0
  | t + 1 => if set t then orb (bt set z t) t else bt set z t
theorem bt_len (set : Nat → Bool) (z : Nat) : ∀ t, (bt set z t).length = z
  | 0 => by simp [bt]
  | t + 1 => by rw [bt]; split; rw [orb_len, bt_len set z t]; exact bt_len set z t
theorem zero_bit (z q : Nat) : Crc.bitAt (List.replicate z 0) q = false := by
  unfold Crc.bitAt
  rw [List.getD_eq_getElem?_getD, List.getElem?_replicate]
  split <;> simp
theorem bt_bit (set : Nat → Bool) (z : Nat) : ∀ t, t ≤ 8 * z → ∀ q, Crc.bitAt (bt set z t) q = (decide (q < t) && set q)
  | 0, _, q => by rw [bt, zero_bit]; simp
  | t + 1, h, q => by
    have ih := bt_bit set z t (by omega) q
    rw [bt]
    by_cases hs : set t = true
    · rw [if_pos hs, orb_bit _ _ _ (by rw [bt_len]; omega), ih]
      by_cases e : t = q
      · subst e; simp [hs]
      · have : decide (q < t + 1) = decide (q < t) := by rw [Bool.eq_iff_iff]; simp; omega
        rw [this]; simp [e]
    · rw [if_neg hs, ih]
      by_cases e : t = q
      · subst e; simp at hs; simp [hs]
      · have : decide (q < t + 1) = decide (q < t) := by rw [Bool.eq_iff_iff]; simp; omega
        rw [this]
theorem eq_of_bits (a b : List UInt8) (hl : a.length = b.length) (h : ∀ q, q < 8 * a.length → Crc.bitAt a q = Crc.bitAt b q) : a = b := by
  apply List.ext_getElem hl
  intro j h1 h2
  apply UInt8.toNat_inj.1
  apply Nat.eq_of_testBit_eq
  intro i
  by_cases hi : i < 8
  · have := h (8 * j + i) (by omega)
    unfold Crc.bitAt at this
    rw [show (8 * j + i) / 8 = j by omega, show (8 * j + i) % 8 = i by omega, List.getD_eq_getElem?_getD, List.getD_eq_getElem?_getD, List.getElem?_eq_getElem h1, List.getElem?_eq_getElem h2] at this
    exact this
  · have k1 := a[j].toNat_lt
    have k2 := b[j].toNat_lt
    rw [Nat.testBit_lt_two_pow (Nat.lt_of_lt_of_le k1 (Nat.pow_le_pow_right (by decide) (by omega))), Nat.testBit_lt_two_pow (Nat.lt_of_lt_of_le k2 (Nat.pow_le_pow_right (by decide) (by omega)))]
/-- What is set behind so many keys. -/
def sets (m : Nat) (keys : List (List UInt8)) (q : Nat) : Bool := keys.any fun k => (List.range 6).any fun j => decide (pl k m j = q)
theorem bt_mk (keys : List (List UInt8)) : bt (sets (bN keys.length) keys) (bN keys.length / 8) (bN keys.length) = mk keys := by
  have hb := bN_pos keys.length
  apply eq_of_bits
  · rw [bt_len, mk_len]
  · intro q hq
    rw [bt_len] at hq
    rw [bt_bit _ _ _ (by omega)]
    unfold mk
    rw [mkF_bit _ _ (by omega) _ (by simp; omega), zero_bit]
    have : decide (q < bN keys.length) = true := by simp; omega
    rw [this]; simp [sets]
/-- A byte with no bit from a place on: adding that bit is setting it. -/
theorem add_bit (c : UInt8) (r : Nat) (hr : r < 8) (h : ∀ i, r ≤ i → i < 8 → c.toNat.testBit i = false) : IntKind.u8.wrap ((c.toNat : Int) + ((UInt8.ofNat (2 ^ r)).toNat : Int)) = (((c ||| UInt8.ofNat (2 ^ r)).toNat : Nat) : Int) := by
  have hc := c.toNat_lt
  have h2 : 2 ^ r < 256 := Nat.pow_lt_pow_right (by decide) hr
  have hp : (UInt8.ofNat (2 ^ r)).toNat = 2 ^ r := by rw [UInt8.toNat_ofNat', Nat.mod_eq_of_lt (by omega)]
  have hlt : c.toNat < 2 ^ r := by
    apply Nat.lt_pow_two_of_testBit
    intro i hi
    by_cases h8 : i < 8
    · exact h i hi h8
    · exact Nat.testBit_lt_two_pow (Nat.lt_of_lt_of_le hc (Nat.pow_le_pow_right (by decide) (by omega)))
  have e := Nat.shiftLeft_add_eq_or_of_lt (i := r) hlt 1
  rw [Nat.shiftLeft_eq, Nat.one_mul] at e
  rw [UInt8.toNat_or, hp, Nat.or_comm, ← e, IntKind.wrap_u8]
  have h3 : 2 ^ r * 2 ≤ 256 := by
    have : 2 ^ (r + 1) ≤ 2 ^ 8 := Nat.pow_le_pow_right (by decide) (by omega)
    rw [Nat.pow_succ] at this; omega
  omega
end Go.Proofs.YtblelfonnelglaaDoor
