/- The filter of keys, as the document makes it. No conditions beyond those written. -/
import Derived.Test.YtblelfonnelglaaDoorBlG
namespace Go.Proofs.YtblelfonnelglaaDoor
open Go.RowKit
set_option linter.unusedSimpArgs false
set_option linter.unusedVariables false

theorem sets_snoc (m : Nat) (keys : List (List UInt8)) (k : List UInt8) (q : Nat) : sets m (keys ++ [k]) q = (sets m keys q || (List.range 6).any fun j => decide (pl k m j = q)) := by
  unfold sets; rw [List.any_append]; simp
def upto (m : Nat) (k : List UInt8) (j q : Nat) : Bool := (List.range j).any fun i => decide (pl k m i = q)
theorem upto_succ (m : Nat) (k : List UInt8) (j q : Nat) : upto m k (j + 1) q = (upto m k j q || decide (pl k m j = q)) := by
  unfold upto; rw [List.range_succ, List.any_append]; simp
theorem bt_get (set : Nat → Bool) (z t : Nat) (ht : t < 8 * z) (i : Nat) (h1 : t % 8 ≤ i) (h2 : i < 8) : ((bt set z t).getD (t / 8) 0).toNat.testBit i = false := by
  have := bt_bit set z t (by omega) (8 * (t / 8) + i)
  unfold Crc.bitAt at this
  rw [show (8 * (t / 8) + i) / 8 = t / 8 by omega, show (8 * (t / 8) + i) % 8 = i by omega] at this
  rw [this]
  have : decide (8 * (t / 8) + i < t) = false := by simp; omega
  rw [this]; rfl
theorem BArr.no_int {b m : Nat} {f : Nat → Bool} {w : World} (h : BArr b m f w) (a : Addr) (ha : a.block = b) (k : IntKind) (v : Int) : w.cell? a ≠ some (.int k v) := by
  obtain ⟨arr, hb, hs, hc⟩ := h
  unfold World.cell?
  rw [ha, hb]
  intro e
  simp only at e
  split at e
  · cases e
  · by_cases hm : a.off < m
    · rw [hc _ hm] at e; cases e
    · rw [Array.getElem?_eq_none (by omega)] at e; cases e
theorem add_block (a : Addr) (i : Nat) : (a.add i).block = a.block := by unfold Addr.add; split <;> rfl
theorem cell_other {w : World} {p a : Addr} {v : Value} (h : a.block ≠ p.block) : (w.setCell p v).cell? a = w.cell? a := by
  unfold World.cell?
  rw [Below.heap_setCell _ _ _ _ h]
set_option maxRecDepth 100000 in
set_option maxHeartbeats 4000000 in
theorem rmake_any (ao : Option Addr) (cap : Nat) (xs : List ByteArray) (hn1 : xs.length ≤ 1000000) (hx : ∀ x ∈ xs, x.size ≤ maxLen) (w : World) (hS : SAt w.heap.size ao (strs xs) w) :
    Calls Tryd.prog 35 #[.slice ao xs.length cap] w fun e w' => e = .returned (.string (bstr (mk (lsts xs)))) ∧ Below w.heap.size w w' := by
  have K0 := Lib.hid (Below.refl w.heap.size w)
  obtain ⟨n, hn⟩ : ∃ n, n = xs.length := ⟨_, rfl⟩
  obtain ⟨m, hm⟩ : ∃ m, m = bN (n : Int) := ⟨_, rfl⟩
  have G1 : Hid (∀ w, Calls Tryd.prog 32 #[.int .i64 n] w fun e w' => e = .returned (.int .i64 m) ∧ w = w') := Lib.hid (by rw [hm]; exact fun w => rbits_any n w)
  have hmb := bN_pos (n : Int)
  rw [← hm] at hmb
  obtain ⟨m1, m2, m3⟩ := hmb
  obtain ⟨z, hz⟩ : ∃ z, m = 8 * z := ⟨m / 8, by omega⟩
  have hd : (m : Int).tdiv 8 = (z : Int) := by rw [Int.tdiv_eq_ediv_of_nonneg (by omega)]; omega
  have hd2 : (m : Int) / 8 = (z : Int) := by omega
  have hz1 : 8 ≤ z := by omega
  have hz2 : z ≤ 1310720 := by omega
  have HM : Hid (m = bN ((lsts xs).length : Int)) := Lib.hid (by rw [hm, hn]; simp [lsts])
  have HZ := Lib.hid hz
  have HN := Lib.hid hn
  have HS := Lib.hid hS
  have HX := Lib.hid hx
  rw [← hn] at hn1 ⊢
  obtain ⟨Z, Z1, Z2, hmk⟩ := make_bools m (by omega)
  have B0 : Hid (BArr w.heap.size m (fun _ => false) (w.alloc (.cells Z 4))) := Lib.hid ⟨Z, heap_alloc_new w _, Z1, Z2⟩
  have KB := Lib.hid (K0.out.alloc (Nat.le_refl _) (.cells Z 4))
  obtain ⟨Y, Y1, Y2, hmk2⟩ := make_bytes z (by omega)
  have HY : Hid (∀ w : World, BtsZ w.heap.size (List.replicate z 0) (w.alloc (.cells Y 5))) := Lib.hid (fun w => Bts.zeros w Y z Y1 Y2)
  have HD := Lib.hid hd
  have HD2 := Lib.hid hd2
  have HK2 := Lib.hid hmk2
  clear hS hn hm hz hx Z1 Z2 Y1 Y2 hd hd2 hmk2
  go_enter Tryd.func35, Tryd.ntmps35
  go_wp2_with fail
  refine (G1.out _).mono ?_
  rintro e w1 ⟨rfl, rfl⟩
  go_wp2_with fail
  clear hmk
  go_loopw [5] (fun i wr => ∃ j : Nat, j ≤ n ∧ i = .int .i64 j ∧ BArr w.heap.size m (sets m ((lsts xs).take j)) wr ∧ Below w.heap.size w wr) (fun i _ => n - (intOf i).toNat)
  case atStart => exact ⟨0, by omega, rfl, B0.out.congr (fun j _ => by simp [sets]), KB.out⟩
  case round =>
    obtain ⟨j, hj, rfl, hbt, hbe⟩ := hrel
    by_cases hlt : j < n
    · have hjx : j < xs.length := by rw [← HN.out]; exact hlt
      obtain ⟨a, rfl⟩ := HS.out.1 (by simp [strs]; omega)
      obtain ⟨x, hxx⟩ : ∃ x, x = xs[j] := ⟨_, rfl⟩
      have c0 : wr.cell? (a.add j) = some (.string x) := by
        rw [hxx]
        exact ((HS.out.under hbe).2 a rfl (by simp [strs]; omega)).2 j _ (by simp [strs, hjx])
      have hji : (j : Int) < (n : Int) := by omega
      have G2 := Lib.hid (fun w => rplaces_yes x m (by rw [hxx]; exact HX.out _ (List.getElem_mem _)) (by omega) (by omega) w)
      obtain ⟨key, hkey⟩ : ∃ k, k = x.data.toList := ⟨_, rfl⟩
      rw [← hkey] at G2
      have HKEY : Hid ((lsts xs).take (j + 1) = (lsts xs).take j ++ [key]) := Lib.hid (by
        rw [List.take_succ_eq_append_getElem (by simpa [lsts] using hjx)]
        simp [lsts, hkey, hxx])
      have B1 := Lib.hid hbt
      have K1 := Lib.hid hbe
      clear hbt hbe hxx hkey
      go_wp2_with fail
      refine (G2.out _).mono ?_
      rintro e w2 ⟨⟨bo, cap2, rfl, s2⟩, k2⟩
      obtain ⟨b, rfl⟩ := s2.1 (by simp [plL])
      have hb2 := (s2.2 b rfl (by simp [plL])).1
      have B2 := Lib.hid (B1.out.next k2)
      have K2 := Lib.hid (below_mono K1.out k2 (Nat.le_refl _))
      have S2 := Lib.hid s2
      have hbw : b.block ≠ w.heap.size := fun e => by
        have hc : w2.cell? (b.add 0) = some (.int .i64 (pl key m 0)) := (s2.2 b rfl (by simp [plL])).2 0 _ rfl
        exact B2.out.no_int (b.add 0) (by rw [add_block]; exact e) _ _ hc
      clear s2 k2
      go_wp2_with fail
      obtain ⟨wo, rfl⟩ : ∃ wo : World, wo = w2 := ⟨_, rfl⟩
      go_loopw [7] (fun i wr => ∃ q : Nat, q ≤ 6 ∧ i = .int .i64 q ∧ BArr w.heap.size m (fun t => sets m ((lsts xs).take j) t || upto m key q t) wr ∧ Below w.heap.size w wr ∧ Hid (∀ i, i < 6 → wr.cell? (b.add i) = some (.int .i64 (pl key m i)))) (fun i _ => 6 - (intOf i).toNat)
      case atStart => exact ⟨0, by omega, rfl, B2.out.congr (fun t _ => by simp [upto]), K2.out, Lib.hid (fun i hi => (S2.out.2 b rfl (by simp [plL])).2 i _ (by simp [plL, hi]))⟩
      case round =>
        obtain ⟨q, hq, rfl, hbt, hbe, HC⟩ := hrel
        by_cases hql : q < 6
        · have hpl := pl_lt key m q (by omega)
          obtain ⟨p, hp⟩ : ∃ p, p = pl key m q := ⟨_, rfl⟩
          have c1 : wr.cell? (b.add q) = some (.int .i64 p) := by rw [hp]; exact HC.out q hql
          rw [← hp] at hpl
          obtain ⟨v0, c2⟩ : ∃ v, wr.cell? ⟨w.heap.size, p, none⟩ = some (.bool v) := ⟨_, hbt.cell p hpl⟩
          have f1 := hbt.frozen p
          have x7 : (p : Int) < m := by omega
          have x8 : (q : Int) < 6 := by omega
          have HP := Lib.hid hp
          have B3 := Lib.hid hbt
          have K3 := Lib.hid hbe
          clear hp hbt hbe
          go_wp2_with fail
          go_roundw
          case rel => exact ⟨q + 1, by omega, by go_num, B3.out.set hpl (fun t ht => by
            rw [upto_succ, ← HP.out]
            by_cases e : t = p
            · subst e; simp
            · rw [if_neg e]
              have : decide (p = t) = false := by simp; intro h; exact e h.symm
              rw [this]; simp), K3.out.setCell (p := ⟨w.heap.size, p, none⟩) (Nat.le_refl _) _, Lib.hid (fun i hi => by
            rw [← HC.out i hi]
            exact cell_other (by rw [add_block]; exact hbw))⟩
          case measure => simp [intOf]; omega
        · obtain rfl : q = 6 := by omega
          have B3 := Lib.hid hbt
          have K3 := Lib.hid hbe
          clear hbt hbe
          go_wp2_with fail
          go_roundw
          case rel => exact ⟨j + 1, by omega, by go_num, by
            rw [HKEY.out]
            exact B3.out.congr (fun t _ => sets_snoc _ _ _ _), K3.out⟩
          case measure => simp [intOf]; omega
    · obtain rfl : j = n := by omega
      have hall : (lsts xs).take j = lsts xs := List.take_of_length_le (by rw [lsts, List.length_map, ← HN.out]; omega)
      rw [hall] at hbt
      obtain ⟨S, hS⟩ : ∃ S, S = sets m (lsts xs) := ⟨_, rfl⟩
      rw [← hS] at hbt
      have HSS := Lib.hid hS
      have B1 := Lib.hid (hbt.next ((Below.refl wr.heap.size wr).alloc (Nat.le_refl _) (.cells Y 5)))
      have K1 := Lib.hid (hbe.alloc hbe.size (.cells Y 5))
      have Y1 := Lib.hid (HY.out wr)
      have hmk2 := HK2.out
      have hd := HD.out
      have hd2 := HD2.out
      have hww : w.heap.size ≠ wr.heap.size := by have := hbt.lt; omega
      have hww2 : w.heap.size ≤ wr.heap.size := hbe.size
      clear hbt hbe hall hS
      go_wp2_with fail
      clear hmk2 hd hd2
      obtain ⟨wo, rfl⟩ : ∃ wo : World, wo = wr := ⟨_, rfl⟩
      go_loopw [9] (fun i wr => ∃ t : Nat, t ≤ m ∧ i = .int .i64 t ∧ BtsZ wo.heap.size (bt S z t) wr ∧ BArr w.heap.size m S wr ∧ Below w.heap.size w wr) (fun i _ => m - (intOf i).toNat)
      case atStart => exact ⟨0, by omega, rfl, Y1.out, B1.out, K1.out⟩
      case round =>
        obtain ⟨t, ht, rfl, hyt, hbt, hbe⟩ := hrel
        by_cases hlt2 : t < m
        · have c0 := hbt.cell t hlt2
          obtain ⟨sv, hsv⟩ : ∃ v, v = S t := ⟨_, rfl⟩
          rw [← hsv] at c0
          have HSV := Lib.hid hsv
          have hti : (t : Int) < m := by omega
          clear hsv
          cases sv with
          | false =>
            have Y3 := Lib.hid hyt
            have B3 := Lib.hid hbt
            have K3 := Lib.hid hbe
            clear hyt hbt hbe
            go_wp2_with fail
            go_roundw
            case rel => exact ⟨t + 1, by omega, by go_num, by
              rw [bt, if_neg (by rw [← HSV.out]; decide)]; exact Y3.out, B3.out, K3.out⟩
            case measure => simp [intOf]; omega
          | true =>
            obtain ⟨d, hd⟩ : ∃ d, d = t / 8 := ⟨_, rfl⟩
            obtain ⟨r, hr, hr8⟩ : ∃ r, r = t % 8 ∧ r < 8 := ⟨_, rfl, by omega⟩
            have hdz : d < z := by have := HZ.out; omega
            have hol : (bt S z t).length = z := bt_len _ _ _
            obtain ⟨c, hc, c1⟩ : ∃ c : UInt8, c = (bt S z t).getD (t / 8) 0 ∧ wr.cell? ⟨wo.heap.size, d, none⟩ = some (.int .u8 c.toNat) := by
              refine ⟨_, rfl, ?_⟩
              rw [List.getD_eq_getElem?_getD, ← hd, List.getElem?_eq_getElem (by omega)]
              exact hyt.cell d (by omega)
            have f1 := hyt.frozen d
            obtain ⟨u, hu⟩ : ∃ u : UInt8, u = UInt8.ofNat (2 ^ r) := ⟨_, rfl⟩
            have x2 : (t : Int).tdiv 8 = (d : Int) := by rw [Int.tdiv_eq_ediv_of_nonneg (by omega)]; omega
            have x2' : (t : Int) / 8 = (d : Int) := by omega
            have x3 : (t : Int).tmod 8 = (r : Int) := by rw [Int.tmod_eq_emod_of_nonneg (by omega)]; omega
            have x3' : (t : Int) % 8 = (r : Int) := by omega
            have x4 : IntKind.u8.wrap (2 ^ r) = (u.toNat : Int) := by
              rw [hu, UInt8.toNat_ofNat', IntKind.wrap_u8, Int.natCast_emod, Int.natCast_pow]; rfl
            have x5 : IntKind.u8.wrap ((c.toNat : Int) + (u.toNat : Int)) = (((c ||| u).toNat : Nat) : Int) := by
              rw [hu]
              exact add_bit c r hr8 (fun i h1 h2 => by rw [hc]; exact bt_get S z t (by have := HZ.out; omega) i (by omega) h2)
            have x7 : (d : Int) < z := by omega
            have HDD := Lib.hid hd
            have HR := Lib.hid hr
            have HU := Lib.hid hu
            have HCC := Lib.hid hc
            have Y3 := Lib.hid hyt
            have B3 := Lib.hid hbt
            have K3 := Lib.hid hbe
            have HOL := Lib.hid hol
            clear hd hr hu hc hyt hbt hbe hol
            go_wp2_with fail
            go_region
            all_goals go_wp2_with fail
            all_goals
              go_roundw
              case rel => exact ⟨t + 1, by omega, by go_num, Y3.out.set (c := c ||| u) (by rw [HOL.out]; exact hdz) (by
                rw [bt, if_pos HSV.out.symm, orb, ← HCC.out, ← HDD.out, HU.out, HR.out]) rfl, B3.out.other (fun e => hww e.symm), (K3.out.setCell (p := ⟨wo.heap.size, d, none⟩) hww2 _).drew⟩
              case measure => simp [intOf]; omega
        · obtain rfl : t = m := by omega
          have hz8 : z = bN ((lsts xs).length : Int) / 8 := by have := HM.out; have := HZ.out; omega
          have hfin : bt S z t = mk (lsts xs) := by
            rw [HSS.out, HM.out, hz8]; exact bt_mk _
          have hbs := bytesZ_str hyt z z (bt_len _ _ _).symm
          rw [hfin] at hbs
          have K3 := Lib.hid hbe
          clear hyt hbt hbe hz8 hfin
          go_wp2_with fail
          go_ret
          exact ⟨rfl, K3.out⟩
end Go.Proofs.YtblelfonnelglaaDoor
