/- What the document's Turned of layer 4 answers: bytes with a burst. No conditions beyond those written. -/
import Derived.Test.YtblelfonnelglaaDoorCrcN
import Derived.Test.YtblelfonnelglaaDoorCrcY
import Derived.RegionTactic
namespace Go.Proofs.YtblelfonnelglaaDoor
open Go.RowKit
set_option linter.unusedSimpArgs false
set_option linter.unusedVariables false

set_option maxRecDepth 100000 in
set_option maxHeartbeats 4000000 in
theorem turned_any (s : ByteArray) (at_ bt : Nat) (hs : s.size ≤ 1000000) (hat : at_ ≤ 100000000) (hbits : bt < 4294967296) (w : World) :
    Calls Tryd.prog 27 #[.string s, .int .i64 at_, .int .u32 bt] w fun e w' => e = .returned (.string (bstr (tur s.data.toList at_ bt 32))) ∧ Below w.heap.size w w' := by
  have hcb := str_bytes
  have hl : s.data.toList.length = s.size := by simp
  have HL := Lib.hid hl
  clear hl
  go_enter Tryd.func27, Tryd.ntmps27
  go_wp2_with fail
  go_loopw [8] (fun i wr => ∃ k : Nat, k ≤ 32 ∧ i = .int .i64 k ∧ Bts w.heap.size (tur s.data.toList at_ bt k) wr ∧ Below w.heap.size w wr) (fun i _ => 32 - (intOf i).toNat)
  case atStart => exact ⟨0, by omega, rfl, Bts.of_str w s, bytesWorld_below w s⟩
  case round =>
    clear hcb
    obtain ⟨k, hk, rfl, hbt, hbe⟩ := hrel
    have htl := tur_len s.data.toList at_ bt k
    rw [HL.out] at htl
    by_cases hlt : k < 32 ∧ at_ + k < 8 * s.size
    · obtain ⟨hlt, hat2⟩ := hlt
      obtain ⟨q, pv, hq, hb1, hb2, hbd⟩ := nat_bit bt k
      cases pv with
      | false =>
        have HBT := Lib.hid hbt
        have HBE := Lib.hid hbe
        clear hbt hbe htl
        go_wp2_with fail
        go_roundw
        case rel => exact ⟨k + 1, by omega, by go_num, by
          rw [tur, if_neg (by rw [← hbd.out]; simp)]; exact HBT.out, HBE.out⟩
        case measure => simp [intOf]; omega
      | true =>
        obtain ⟨j, hj⟩ : ∃ j, j = (at_ + k) / 8 := ⟨_, rfl⟩
        obtain ⟨c, hc, c0⟩ : ∃ c : UInt8, Hid (c = (tur s.data.toList at_ bt k).getD ((at_ + k) / 8) 0) ∧ wr.cell? ⟨w.heap.size, j, none⟩ = some (.int .u8 c.toNat) := by
          refine ⟨_, Lib.hid rfl, ?_⟩
          have := hbt.cell j (by omega)
          rw [List.getD_eq_getElem?_getD, ← hj, List.getElem?_eq_getElem (by omega)]
          exact this
        have f0 := hbt.frozen j (by omega)
        have HBT := Lib.hid hbt
        have HBE := Lib.hid hbe
        have HTL := Lib.hid htl
        clear hbt hbe htl
        obtain ⟨t, ht, ht8⟩ : ∃ t, t = (at_ + k) % 8 ∧ t < 8 := ⟨_, rfl, by omega⟩
        obtain ⟨p, hp⟩ : ∃ p : UInt8, p = UInt8.ofNat (2 ^ t) := ⟨_, rfl⟩
        have x1 : IntKind.i64.wrap ((at_ : Int) + (k : Int)) = (at_ : Int) + (k : Int) := IntWalk.i64_in _ (by omega)
        have x2 : ((at_ : Int) + (k : Int)).tdiv 8 = (j : Int) := by rw [Int.tdiv_eq_ediv_of_nonneg (by omega)]; omega
        have x3 : ((at_ : Int) + (k : Int)).tmod 8 = (t : Int) := by rw [Int.tmod_eq_emod_of_nonneg (by omega)]; omega
        have x4 : IntKind.u8.wrap (2 ^ t) = (p.toNat : Int) := by
          rw [hp, UInt8.toNat_ofNat', IntKind.wrap_u8, Int.natCast_emod, Int.natCast_pow]; rfl
        have x5 : bits .xor .u8 (c.toNat : Int) (p.toNat : Int) = (((c ^^^ p).toNat : Nat) : Int) := by
          have h1 := c.toNat_lt
          have h2 := p.toNat_lt
          rw [u8_xor_nat _ _ (by omega) (by omega), UInt8.toNat_xor]
        have x6 : j < s.size := by omega
        have x7 : (j : Int) < s.size := by omega
        have HJ := Lib.hid hj
        have HP := Lib.hid hp
        have HT := Lib.hid ht
        clear hj hp ht
        go_wp2_with fail
        go_region
        all_goals go_wp2_with fail
        all_goals
          go_roundw
          case rel => exact ⟨k + 1, by omega, by go_num, HBT.out.set (c := c ^^^ p) (by rw [HTL.out]; exact x6) (by
            rw [tur, if_pos ⟨by rw [HL.out]; exact hat2, hbd.out.symm⟩, ← hc.out, ← HJ.out, HP.out, HT.out]) rfl, (HBE.out.setCell (p := ⟨w.heap.size, j, none⟩) (Nat.le_refl _) _).drew⟩
          case measure => simp [intOf]; omega
    · have hend : tur s.data.toList at_ bt k = tur s.data.toList at_ bt 32 := by
        have hgo : ∀ d, k + d ≤ 32 → tur s.data.toList at_ bt (k + d) = tur s.data.toList at_ bt k := by
          intro d
          induction d with
          | zero => intro _; rfl
          | succ d ih =>
            intro h
            rw [← Nat.add_assoc, tur, if_neg (by rw [HL.out]; intro e; omega)]
            exact ih (by omega)
        have := hgo (32 - k) (by omega)
        rw [show k + (32 - k) = 32 by omega] at this
        exact this.symm
      rw [hend] at hbt
      have hbs := bytes_str hbt s.size (grownCap w s.size 0 5) (by rw [tur_len, HL.out])
      have HBE := Lib.hid hbe
      clear hbt hbe htl hend
      by_cases h32 : k < 32
      · have h3 : ¬ at_ + k < 8 * s.size := fun e => hlt ⟨h32, e⟩
        clear hlt
        go_wp2_with fail
        go_ret
        exact ⟨rfl, HBE.out⟩
      · clear hlt
        go_wp2_with fail
        go_ret
        exact ⟨rfl, HBE.out⟩
end Go.Proofs.YtblelfonnelglaaDoor
