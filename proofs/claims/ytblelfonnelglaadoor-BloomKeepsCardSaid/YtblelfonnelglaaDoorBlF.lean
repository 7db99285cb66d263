/- The filter of keys, as package bloom makes it; the examples of layer 8. No conditions beyond those written. -/
import Derived.Test.YtblelfonnelglaaDoorBlE
import Derived.Laws.MakeOwn
namespace Go.Proofs.YtblelfonnelglaaDoor
open Go.RowKit
set_option linter.unusedSimpArgs false
set_option linter.unusedVariables false

/-- Bytes in block b, of which none is frozen. -/
def BtsZ (b : Nat) (l : List UInt8) (w : World) : Prop := ∃ arr, w.heap[b]? = some (.cells arr 5 (0, 0)) ∧ arr.size = l.length ∧ ∀ i, (h : i < l.length) → arr[i]? = some (.int .u8 l[i].toNat)
theorem BtsZ.cell {b : Nat} {l : List UInt8} {w : World} (h : BtsZ b l w) (i : Nat) (hi : i < l.length) : w.cell? ⟨b, i, none⟩ = some (.int .u8 l[i].toNat) := by
  obtain ⟨arr, hb, hs, ha⟩ := h
  rw [Lib.cell_of_heap hb]
  exact ha i hi
theorem BtsZ.frozen {b : Nat} {l : List UInt8} {w : World} (h : BtsZ b l w) (i : Nat) : w.frozen? ⟨b, i, none⟩ = false := by
  obtain ⟨arr, hb, hs, ha⟩ := h
  exact Lib.frozen_of_heap hb i
theorem BtsZ.set {b : Nat} {l l' : List UInt8} {w : World} {i : Nat} {c : UInt8} {v : Int} (h : BtsZ b l w) (hi : i < l.length) (hl : l' = l.set i c) (hv : v = (c.toNat : Int)) : BtsZ b l' (w.setCell ⟨b, i, none⟩ (.int .u8 v)) := by
  obtain ⟨arr, hb, hs, ha⟩ := h
  subst hl hv
  refine ⟨arr.setIfInBounds i (.int .u8 c.toNat), by simp [World.setCell, Array.getElem?_modify, hb], by simpa using hs, fun j hj => ?_⟩
  have hj' : j < l.length := by simpa using hj
  by_cases e : j = i
  · subst e
    rw [Array.getElem?_setIfInBounds_self_of_lt (by omega)]
    simp
  · rw [Array.getElem?_setIfInBounds_ne (by omega), List.getElem_set_ne (by omega)]
    exact ha j hj'
theorem BtsZ.lt {b : Nat} {l : List UInt8} {w : World} (h : BtsZ b l w) : b < w.heap.size := by
  obtain ⟨arr, h1, _⟩ := h
  exact (Array.getElem?_eq_some_iff.1 h1).1
theorem BtsZ.next {b : Nat} {l : List UInt8} {w w' : World} (h : BtsZ b l w) (k : Below w.heap.size w w') : BtsZ b l w' := by
  have hl := h.lt
  obtain ⟨arr, h1, h2⟩ := h
  exact ⟨arr, (k.block b hl).trans h1, h2⟩
theorem bytesZ_str {b : Nat} {l : List UInt8} {w : World} (h : BtsZ b l w) (n cap : Nat) (hn : n = l.length) : (convert 40 9 (.slice (some ⟨b, 0, none⟩) n cap)).run Tryd.prog w = .ok (.string (bstr l)) w := by
  subst hn
  have := run_convert_bytes_arg (P := Tryd.prog) w 40 5 Tryd.underlying40 Tryd.underlying5 b 0 l.length cap (l.map fun c => (c.toNat : Int)) (by simp) (fun i hi => by
    rw [Nat.zero_add, h.cell i hi]; simp [hi]) _ Tryd.underlying9
  rw [strOf_bytes] at this
  exact this
def lsts (xs : List ByteArray) : List (List UInt8) := xs.map fun x => x.data.toList
theorem or_u8 (c p : UInt8) : bits .or .u8 (c.toNat : Int) (p.toNat : Int) = (((c ||| p).toNat : Nat) : Int) := by
  have h1 := c.toNat_lt
  have h2 := p.toNat_lt
  rw [u8_or_nat _ _ (by omega) (by omega), UInt8.toNat_or]
theorem made_one (v : Value) (n i : Nat) (hi : i < n) : (madeCells #[v] n)[i]? = some v := by
  unfold madeCells
  rw [Array.getElem?_map, Array.getElem?_range, if_pos hi]
  simp [Nat.mod_one]
theorem make_bytes (z : Nat) (hz : z ≤ 1000000000) : ∃ Z : Array Value, Z.size = z ∧ (∀ i, i < z → Z[i]? = some (.int .u8 0)) ∧ ∀ w, (Instr.makeSlice 40 (.int .i64 (z : Int)) (.int .i64 (z : Int))).run Tryd.prog w = .ok (.slice (some ⟨w.heap.size, 0, none⟩) z z) (w.alloc (.cells Z 5)) := by
  obtain ⟨i0, hi, hz0, hz1, hz2⟩ := info_parts byteInfo
  refine ⟨madeCells #[.int .u8 0] z, size_madeCells _ _, fun i hi => made_one _ _ _ hi, fun w => ?_⟩
  have := run_make (P := Tryd.prog) w 40 5 i0 (.int .u8 0) Tryd.underlying40 hi hz0 .i64 .i64 z z (by omega) (by omega) (by rw [hz2]; omega) (by omega)
  rw [hz1, Int.toNat_natCast, Nat.mul_one] at this
  exact this
theorem Bts.zeros (w : World) (Z : Array Value) (z : Nat) (h1 : Z.size = z) (h2 : ∀ i, i < z → Z[i]? = some (.int .u8 0)) : BtsZ w.heap.size (List.replicate z 0) (w.alloc (.cells Z 5)) :=
  ⟨Z, heap_alloc_new w _, by simp [h1], fun i hi => by
    have : i < z := by simpa using hi
    rw [h2 i this]; simp⟩
set_option maxRecDepth 100000 in
set_option maxHeartbeats 4000000 in
theorem make_any (ao : Option Addr) (cap : Nat) (xs : List ByteArray) (hn1 : xs.length ≤ 1000000) (hx : ∀ x ∈ xs, x.size ≤ maxLen) (w : World) (hT : TabAt w) (hS : SAt w.heap.size ao (strs xs) w) :
    Calls Tryd.prog 34 #[.slice ao xs.length cap] w fun e w' => e = .returned (.string (bstr (mk (lsts xs)))) ∧ Below w.heap.size w w' := by
  have T0 := Lib.hid hT
  have K0 := Lib.hid (Below.refl w.heap.size w)
  obtain ⟨n, hn⟩ : ∃ n, n = xs.length := ⟨_, rfl⟩
  obtain ⟨m, hm⟩ : ∃ m, m = bN (n : Int) := ⟨_, rfl⟩
  have G1 : Hid (∀ w, Calls Tryd.prog 31 #[.int .i64 n] w fun e w' => e = .returned (.int .i64 m) ∧ w = w') := Lib.hid (by rw [hm]; exact fun w => bits_any n w)
  have hmb := bN_pos (n : Int)
  rw [← hm] at hmb
  obtain ⟨m1, m2, m3⟩ := hmb
  obtain ⟨z, hz⟩ : ∃ z, m = 8 * z := ⟨m / 8, by omega⟩
  have hd : (m : Int).tdiv 8 = (z : Int) := by rw [Int.tdiv_eq_ediv_of_nonneg (by omega)]; omega
  have hd2 : (m : Int) / 8 = (z : Int) := by omega
  have hz1 : 8 ≤ z := by omega
  have hz2 : z ≤ 1310720 := by omega
  have HM : Hid (m = bN ((lsts xs).length : Int)) := Lib.hid (by rw [hm, hn]; simp [lsts])
  have HZ := Lib.hid hz
  have HN := Lib.hid hn
  have HS := Lib.hid hS
  have HX := Lib.hid hx
  rw [← hn] at hn1 ⊢
  clear hT hn hm hz hS hx
  obtain ⟨Z, Z1, Z2, hmk⟩ := make_bytes z (by omega)
  have B0 := Lib.hid (Bts.zeros w Z z Z1 Z2)
  have KB := Lib.hid (K0.out.alloc (Nat.le_refl _) (.cells Z 5))
  have ML : Hid (∀ j, (mkF m (List.replicate z 0) ((lsts xs).take j)).length = z) := Lib.hid (fun j => by rw [mkF_len]; simp)
  clear Z1 Z2
  go_enter Tryd.func34, Tryd.ntmps34
  go_wp2_with fail
  refine (G1.out _).mono ?_
  rintro e w1 ⟨rfl, rfl⟩
  go_wp2_with fail
  clear hmk hd hd2
  go_loopw [17] (fun i wr => ∃ j : Nat, j ≤ n ∧ i = .int .i64 j ∧ BtsZ w.heap.size (mkF m (List.replicate z 0) ((lsts xs).take j)) wr ∧ Below w.heap.size w wr) (fun i _ => n - (intOf i).toNat)
  case atStart => exact ⟨0, by omega, rfl, B0.out, KB.out⟩
  case round =>
    obtain ⟨j, hj, rfl, hbt, hbe⟩ := hrel
    by_cases hlt : j < n
    · have hjx : j < xs.length := by rw [← HN.out]; exact hlt
      obtain ⟨a, rfl⟩ := HS.out.1 (by simp [strs]; omega)
      obtain ⟨x, hxx⟩ : ∃ x, x = xs[j] := ⟨_, rfl⟩
      have c0 : wr.cell? (a.add j) = some (.string x) := by
        rw [hxx]
        exact ((HS.out.under hbe).2 a rfl (by simp [strs]; omega)).2 j _ (by simp [strs, hjx])
      have hji : (j : Int) < (n : Int) := by omega
      have G2 := Lib.hid (fun w hT => spread_any x m (by rw [hxx]; exact HX.out _ (List.getElem_mem _)) (by omega) (by omega) w hT)
      obtain ⟨key, hkey⟩ : ∃ k, k = x.data.toList := ⟨_, rfl⟩
      rw [← hkey] at G2
      have HKEY : Hid ((lsts xs).take (j + 1) = (lsts xs).take j ++ [key]) := Lib.hid (by
        rw [List.take_succ_eq_append_getElem (by simpa [lsts] using hjx)]
        simp [lsts, hkey, hxx])
      have T1 := Lib.hid (T0.out.next hbe)
      have B1 := Lib.hid hbt
      have K1 := Lib.hid hbe
      clear hbt hbe hxx hkey
      go_wp2_with fail
      refine (G2.out _ T1.out).mono ?_
      rintro e w2 ⟨rfl, k2⟩
      have B2 := Lib.hid (B1.out.next k2)
      have K2 := Lib.hid (below_mono K1.out k2 (Nat.le_refl _))
      clear k2
      obtain ⟨cur, hcur⟩ : ∃ c, c = mkF m (List.replicate z 0) ((lsts xs).take j) := ⟨_, rfl⟩
      rw [← hcur] at B2
      have hcl : cur.length = z := by rw [hcur]; exact ML.out j
      have HCUR := Lib.hid hcur
      have HCL := Lib.hid hcl
      clear hcur hcl
      go_wp2_with fail
      obtain ⟨wo, rfl⟩ : ∃ wo : World, wo = w2 := ⟨_, rfl⟩
      go_loopw [24] (fun i wr => ∃ q : Nat, q ≤ 6 ∧ i = .int .i64 q ∧ BtsZ w.heap.size (orbs m key cur q) wr ∧ Below w.heap.size w wr) (fun i _ => 6 - (intOf i).toNat)
      case atStart => exact ⟨0, by omega, rfl, B2.out, K2.out⟩
      case round =>
        obtain ⟨q, hq, rfl, hbt, hbe⟩ := hrel
        by_cases hql : q < 6
        · have hix := index6 key m q hql
          have hpl := pl_lt key m q (by omega)
          obtain ⟨p, hp⟩ : ∃ p, p = pl key m q := ⟨_, rfl⟩
          rw [← hp] at hix hpl
          obtain ⟨d, hd⟩ : ∃ d, d = p / 8 := ⟨_, rfl⟩
          obtain ⟨r, hr, hr8⟩ : ∃ r, r = p % 8 ∧ r < 8 := ⟨_, rfl, by omega⟩
          have hdz : d < z := by have := HZ.out; omega
          have hol : (orbs m key cur q).length = z := by rw [orbs_len, HCL.out]
          obtain ⟨c, hc, c1⟩ : ∃ c : UInt8, Hid (c = (orbs m key cur q).getD (p / 8) 0) ∧ wr.cell? ⟨w.heap.size, d, none⟩ = some (.int .u8 c.toNat) := by
            refine ⟨_, Lib.hid rfl, ?_⟩
            rw [List.getD_eq_getElem?_getD, ← hd, List.getElem?_eq_getElem (by omega)]
            exact hbt.cell d (by omega)
          have f1 := hbt.frozen d
          obtain ⟨u, hu⟩ : ∃ u : UInt8, u = UInt8.ofNat (2 ^ r) := ⟨_, rfl⟩
          have x2 : (p : Int).tdiv 8 = (d : Int) := by rw [Int.tdiv_eq_ediv_of_nonneg (by omega)]; omega
          have x2' : (p : Int) / 8 = (d : Int) := by omega
          have x3 : (p : Int).tmod 8 = (r : Int) := by rw [Int.tmod_eq_emod_of_nonneg (by omega)]; omega
          have x3' : (p : Int) % 8 = (r : Int) := by omega
          have x4 : IntKind.u8.wrap (2 ^ r) = (u.toNat : Int) := by
            rw [hu, UInt8.toNat_ofNat', IntKind.wrap_u8, Int.natCast_emod, Int.natCast_pow]; rfl
          have x5 := or_u8 c u
          have x7 : (d : Int) < z := by omega
          have HP := Lib.hid hp
          have HD := Lib.hid hd
          have HR := Lib.hid hr
          have HU := Lib.hid hu
          have B3 := Lib.hid hbt
          have K3 := Lib.hid hbe
          have HOL := Lib.hid hol
          clear hp hd hr hu hbt hbe hol
          go_wp2_with fail
          go_region
          all_goals go_wp2_with fail
          all_goals
            go_roundw
            case rel => exact ⟨q + 1, by omega, by go_num, B3.out.set (c := c ||| u) (by rw [HOL.out]; exact hdz) (by
              rw [orbs, orb, ← HP.out, ← hc.out, ← HD.out, HU.out, HR.out]) rfl, (K3.out.setCell (p := ⟨w.heap.size, d, none⟩) (Nat.le_refl _) _).drew⟩
            case measure => simp [intOf]; omega
        · obtain rfl : q = 6 := by omega
          have B3 := Lib.hid hbt
          have K3 := Lib.hid hbe
          clear hbt hbe
          go_wp2_with fail
          go_roundw
          case rel => exact ⟨j + 1, by omega, by go_num, by
            rw [HKEY.out, mkF, List.foldl_append]
            have e := B3.out
            rw [HCUR.out] at e
            exact e, K3.out⟩
          case measure => simp [intOf]; omega
    · obtain rfl : j = n := by omega
      have hz8 : z = bN ((lsts xs).length : Int) / 8 := by have := HM.out; have := HZ.out; omega
      have hfin : mkF m (List.replicate z 0) ((lsts xs).take j) = mk (lsts xs) := by
        rw [List.take_of_length_le (by rw [lsts, List.length_map, ← HN.out]; omega), HM.out, hz8]; rfl
      have hbs := bytesZ_str hbt z z (ML.out j).symm
      rw [hfin] at hbs
      have K3 := Lib.hid hbe
      clear hbt hbe hz8 hfin
      go_wp2_with fail
      go_ret
      exact ⟨rfl, K3.out⟩
end Go.Proofs.YtblelfonnelglaaDoor
