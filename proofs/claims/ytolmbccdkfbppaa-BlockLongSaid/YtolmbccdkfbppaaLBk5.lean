/- The law BlockLong walked: a block takes as many pairs as may be, and one more not. No conditions beyond those written. -/
import Derived.Test.YtolmbccdkfbppaaBkU
namespace Go.Proofs.Ytolmbccdkfbppaa
open Go.RowKit
set_option linter.unusedVariables false
set_option linter.unusedSimpArgs false

/-- The i-th key. -/
def lk (i : Nat) : ByteArray := ⟨#[UInt8.ofNat (1 + i / 200), UInt8.ofNat (1 + i % 200)]⟩
def lp (i : Nat) : PB := ⟨lk i, ⟨#[]⟩⟩
def lps (n : Nat) : List PB := (List.range n).map lp
theorem lps_succ (n : Nat) : lps (n + 1) = lps n ++ [lp n] := by unfold lps; rw [List.range_succ, List.map_append]; rfl
theorem lps_len (n : Nat) : (lps n).length = n := by simp [lps]
theorem lp_right (n : Nat) : rightP (lp n) = true := by
  unfold rightP lp
  have h1 : (lk n).size = 2 := rfl
  have h2 : (⟨#[]⟩ : ByteArray).size = 0 := rfl
  dsimp only
  rw [h1, h2]; rfl
theorem lk_less (n : Nat) (h : n + 1 < 5000) : Op.bytesLess (lk n).toList (lk (n + 1)).toList = true ∧ leS (lk (n + 1)) (lk n) = false := by
  have e : ∀ i, (lk i).toList = [UInt8.ofNat (1 + i / 200), UInt8.ofNat (1 + i % 200)] := fun i => by rw [ByteArray.toList_eq]; rfl
  have a1 : (UInt8.ofNat (1 + n / 200)).toNat = 1 + n / 200 := by rw [UInt8.toNat_ofNat']; omega
  have a2 : (UInt8.ofNat (1 + n % 200)).toNat = 1 + n % 200 := by rw [UInt8.toNat_ofNat']; omega
  have b1 : (UInt8.ofNat (1 + (n + 1) / 200)).toNat = 1 + (n + 1) / 200 := by rw [UInt8.toNat_ofNat']; omega
  have b2 : (UInt8.ofNat (1 + (n + 1) % 200)).toNat = 1 + (n + 1) % 200 := by rw [UInt8.toNat_ofNat']; omega
  have hl : Op.bytesLess (lk n).toList (lk (n + 1)).toList = true := by
    rw [e, e]
    simp only [Op.bytesLess, Bool.or_eq_true, Bool.and_eq_true, decide_eq_true_eq, beq_iff_eq, Bool.or_false, Bool.and_false, UInt8.lt_iff_toNat_lt, ← UInt8.toNat_inj, a1, a2, b1, b2, Bool.false_eq_true, or_false, and_false]
    omega
  refine ⟨hl, ?_⟩
  have hne : ¬ Op.bytesLess (lk (n + 1)).toList (lk n).toList = true := fun h2 => by
    have := less_trans hl h2
    have irr : ∀ l : List UInt8, Op.bytesLess l l = false := by
      intro l
      induction l with
      | nil => rfl
      | cons x l ih => simp [Op.bytesLess, ih]
    rw [irr] at this; cases this
  have hq : ((lk (n + 1)).toList == (lk n).toList) = false := by
    rw [beq_eq_false_iff_ne]
    intro h2
    have irr : ∀ l : List UInt8, Op.bytesLess l l = false := by
      intro l
      induction l with
      | nil => rfl
      | cons x l ih => simp [Op.bytesLess, ih]
    rw [← h2, irr] at hl; cases hl
  unfold leS
  rw [hq]
  simpa using hne
theorem lps_last (n : Nat) : lastB (lps (n + 1)) = lk n := by rw [lps_succ, lastB_snoc]; rfl
theorem lp_up (n : Nat) (h : n < 5000) : leS (lp n).k (lastB (lps n)) = false := by
  cases n with
  | zero => exact leS_none _ (by decide)
  | succ n => rw [lps_last]; exact (lk_less n h).2
theorem lps_rise (n : Nat) (h : n ≤ 4096) : Rise (lps n) := by
  induction n with
  | zero => exact Rise.nil
  | succ n ih => rw [lps_succ]; exact (ih (by omega)).snoc (lp_right n) (lp_up n (by omega)) (by rw [lps_len]; omega)
theorem less_irr : ∀ l : List UInt8, Op.bytesLess l l = false
  | [] => rfl
  | x :: l => by simp [Op.bytesLess, less_irr l]
theorem less_leS {a b : ByteArray} (h : Op.bytesLess a.toList b.toList = true) : leS b a = false := by
  unfold leS
  simp only [Bool.or_eq_false_iff, beq_eq_false_iff_ne]
  refine ⟨?_, fun e => by rw [e, less_irr] at h; cases h⟩
  cases hb : Op.bytesLess b.toList a.toList with
  | false => rfl
  | true =>
    have := less_trans h hb
    rw [less_irr] at this; cases this
theorem key_run (w : World) (i : Nat) (h : i < 5000) : (convert 26 9 (.slice (some ⟨w.heap.size, 0, none⟩) 2 2)).run Try.prog (w.alloc (.cells #[.int .u8 (1 + (i : Int) / 200), .int .u8 (1 + (i : Int) % 200)] 5)) = .ok (.string (lk i)) (w.alloc (.cells #[.int .u8 (1 + (i : Int) / 200), .int .u8 (1 + (i : Int) % 200)] 5)) := by
  have e : lk i = strOfNums [1 + (i : Int) / 200, 1 + (i : Int) % 200] := by
    unfold lk strOfNums
    have h1 : (1 + (i : Int) / 200).toNat = 1 + i / 200 := by omega
    have h2 : (1 + (i : Int) % 200).toNat = 1 + i % 200 := by omega
    simp [h1, h2]
  rw [e]
  refine run_convert_bytes_arg (P := Try.prog) _ 26 5 Try.underlying26 Try.underlying5 w.heap.size 0 2 2 _ rfl (fun j hj => ?_) _ Try.underlying9
  have hn := cell_blk (heap_alloc_new w (.cells #[.int .u8 (1 + (i : Int) / 200), .int .u8 (1 + (i : Int) % 200)] 5))
  match j, hj with
  | 0, _ => exact hn 0
  | 1, _ => exact hn 1
theorem less_ff (n : Nat) (h : n < 5000) : Op.bytesLess (lk n).toList (⟨#[255]⟩ : ByteArray).toList = true := by
  have e : (lk n).toList = [UInt8.ofNat (1 + n / 200), UInt8.ofNat (1 + n % 200)] := by rw [ByteArray.toList_eq]; rfl
  have e2 : (⟨#[255]⟩ : ByteArray).toList = [255] := by rw [ByteArray.toList_eq]
  have a1 : (UInt8.ofNat (1 + n / 200)).toNat = 1 + n / 200 := by rw [UInt8.toNat_ofNat']; omega
  rw [e, e2]
  simp only [Op.bytesLess, Bool.or_eq_true, decide_eq_true_eq, UInt8.lt_iff_toNat_lt, a1]
  left
  show 1 + n / 200 < 255
  omega
theorem lps_seek (n : Nat) (h : n ≤ 4096) : SeekP (lps n) ⟨#[255]⟩ n := by
  refine ⟨by rw [lps_len]; exact Nat.le_refl _, fun j p hp hj => ?_, fun j p hp hj => ?_⟩
  · unfold lps at hp
    rw [List.getElem?_map, List.getElem?_range hj] at hp
    injection hp with hp
    rw [← hp]
    exact less_ff j (by omega)
  · rw [List.getElem?_eq_none (by rw [lps_len]; exact hj)] at hp; cases hp
set_option maxRecDepth 100000 in
set_option maxHeartbeats 8000000 in
theorem blockLong_walk (over : Int) (wo : (Lit.int .u8 over).wf = true) (w : World) :
    Calls Try.prog 7 #[.int .u8 over] w fun e w' => e = .returned (.bool true) ∧ Below w.heap.size w w' := by
  have ho := bounds_u8 wo
  obtain ⟨o, rfl⟩ : ∃ o : Nat, over = o := ⟨over.toNat, by omega⟩
  obtain ⟨z, hz⟩ : ∃ z, z = o % 12 := ⟨_, rfl⟩
  have hzi : (o : Int) % 12 = (z : Int) := by omega
  have hz12 : z < 12 := by omega
  obtain ⟨N, hN⟩ : ∃ N, N = 4090 + z := ⟨_, rfl⟩
  have hNi : 4090 + (z : Int) = (N : Int) := by omega
  have hN1 : 4090 ≤ N := by omega
  have hN2 : N ≤ 4101 := by omega
  have HB0 := Lib.hid (BkAt.fresh w)
  have HK0 := Lib.hid ((Below.refl w.heap.size w).alloc (Nat.le_refl _) (.cells #[.slice none 0 0, .slice none 0 0, .int .i64 0, .string ⟨#[]⟩] 29))
  clear hz hN wo
  go_enter Try.func7, Try.ntmps7
  go_wp2_with fail
  obtain ⟨bb, hbb⟩ : ∃ b, b = w.heap.size := ⟨_, rfl⟩
  obtain ⟨WS, hWS⟩ : ∃ WS, WS = w.alloc (.cells #[.slice none 0 0, .slice none 0 0, .int .i64 0, .string ⟨#[]⟩] 29) := ⟨_, rfl⟩
  have HBE : Hid (bb = w.heap.size) := Lib.hid hbb
  rw [← hWS] at HB0 HK0
  rw [← hbb] at HB0 ⊢
  refine wp_letter (fun W => WS = W) hWS ?_
  rintro _ rfl
  clear hWS hbb
  go_loopw [5] (fun i wr => ∃ k n1 : Nat, k ≤ N ∧ i = .int .i64 k ∧ Hid (n1 = min k 4096) ∧ Hid (BkAt bb bb (foldB (lps n1)) wr) ∧ Hid (Below w.heap.size w wr)) (fun i _ => N - (intOf i).toNat)
  case atStart => exact ⟨0, 0, by omega, rfl, Lib.hid (by omega), HB0, HK0⟩
  case round =>
    obtain ⟨k, n1, hk, rfl, HN1, HB, HK⟩ := hrel
    by_cases hlt : k < N
    · have hki : (k : Int) < (N : Int) := by omega
      have hk0 : (0 : Int) ≤ (k : Int) := by omega
      have hcv := key_run wr k (by omega)
      obtain ⟨ky, hky⟩ : ∃ ky, ky = lk k := ⟨_, rfl⟩
      rw [← hky] at hcv
      have HKY := Lib.hid hky
      obtain ⟨W1, hW1⟩ : ∃ W1, W1 = wr.alloc (.cells #[.int .u8 (1 + (k : Int) / 200), .int .u8 (1 + (k : Int) % 200)] 5) := ⟨_, rfl⟩
      have hbl : Below wr.heap.size wr W1 := by rw [hW1]; exact (Below.refl _ _).alloc (Nat.le_refl _) _
      have HW1 := Lib.hid hW1
      have HB1 := Lib.hid (HB.out.under hbl)
      have HK1 := Lib.hid (below_mono HK.out hbl (Nat.le_refl _))
      have hq1 : 1 + (k : Int) / 200 ≤ 255 := by omega
      have hq2 : 0 ≤ 1 + (k : Int) / 200 := by omega
      have hq3 : 1 + (k : Int) % 200 ≤ 255 := by omega
      have hq4 : 0 ≤ 1 + (k : Int) % 200 := by omega
      by_cases h4 : k < 4096
      · have h4i : (k : Int) < 4096 := by omega
        have hn1 : n1 = k := by have := HN1.out; omega
        subst hn1
        have AY := Lib.hid (add_sure HB1.out (lps_rise n1 (by omega)) (lp n1) ⟨lp_right n1, lp_up n1 (by omega), by rw [lps_len]; omega⟩ (Nat.le_of_lt HB1.out.lt))
        rw [← lps_succ] at AY
        have e1 : (lp n1).k = ky := hky.symm
        have e2 : (lp n1).v = ⟨#[]⟩ := rfl
        rw [e1, e2, HW1.out] at AY
        clear hW1 hbl e1 e2 hky
        go_wp2_with fail
        refine AY.out.mono ?_
        rintro e w3 ⟨rfl, h3, k3⟩
        have H3 := Lib.hid h3
        have K3 : Hid (Below w.heap.size w w3) := Lib.hid (by
          have h1 := HK1.out
          rw [HW1.out] at h1
          have h2 := HB1.out.lt
          rw [HW1.out] at h2
          exact h1.trans ((k3.below (Nat.le_of_lt h2)).mono (by rw [HBE.out]; exact Nat.le_refl _)))
        clear h3 k3 AY hcv
        go_wp2_with fail
        go_roundw
        case rel => exact ⟨n1 + 1, by omega, by omega, n1 + 1, Lib.hid (by omega), H3⟩
        case measure => simp [intOf]; omega
      · have h4i : ¬ (k : Int) < 4096 := by omega
        have h4j : (4096 : Int) ≤ (k : Int) := by omega
        have hn1 : n1 = 4096 := by have := HN1.out; omega
        subst hn1
        have AN := Lib.hid (add_full HB1.out (lp k) (lp_right k) (by
          have hl : (foldB (lps 4096)).last = lk 4095 := by rw [foldB_last]; exact lps_last 4095
          rw [hl]
          show leS (lk k) (lk 4095) = false
          rcases Nat.lt_or_ge 4096 k with h5 | h5
          · -- further on
            have hm : ∀ d, 4096 + d < 4999 → Op.bytesLess (lk 4095).toList (lk (4096 + d)).toList = true := by
              intro d
              induction d with
              | zero => intro _; exact (lk_less 4095 (by omega)).1
              | succ d ih => intro hd; exact less_trans (ih (by omega)) (lk_less (4096 + d) (by omega)).1
            obtain ⟨d, rfl⟩ : ∃ d, k = 4096 + d := ⟨k - 4096, by omega⟩
            exact less_leS (hm d (by omega))
          · have : k = 4096 := by omega
            subst this
            exact (lk_less 4095 (by omega)).2) (by rw [foldB_count, lps_len]; exact Nat.le_refl _) (by rw [foldB_count, lps_len]; decide))
        have e1 : (lp k).k = ky := hky.symm
        have e2 : (lp k).v = ⟨#[]⟩ := rfl
        rw [e1, e2, HW1.out] at AN
        clear hW1 hbl e1 e2 hky
        go_wp2_with fail
        refine AN.out.mono ?_
        rintro e w3 ⟨rfl, rfl⟩
        clear AN hcv
        rw [HW1.out] at HB1 HK1
        go_wp2_with fail
        go_roundw
        case rel => exact ⟨k + 1, by omega, by omega, 4096, Lib.hid (by omega), HB1⟩
        case measure => simp [intOf]; omega
    · obtain rfl : k = N := by omega
      have hn1 := HN1.out
      have hn4 : n1 ≤ 4096 := by omega
      have hri := lps_rise n1 hn4
      have hok := hri.bok
      obtain ⟨st, hst⟩ : ∃ st : ByteArray, st = ⟨(outB (foldB (lps n1))).toArray⟩ := ⟨_, rfl⟩
      have hsm : (outB (foldB (lps n1))).length ≤ 80000000 := by
        have h1 := outB_len (foldB (lps n1))
        have h2 := hok.laid
        have h3 := hok.rs
        have h4 := hok.count
        omega
      have hsz : st.size ≤ 80000000 := by rw [hst, str_size]; exact hsm
      have CB : Hid (Calls Try.prog 16 #[.pointer (some ⟨bb, 0, none⟩)] wr fun e w' => e = .returned (.string st) ∧ Below wr.heap.size wr w') := Lib.hid (by
        have h := bbytes_any HB.out hok (Nat.le_of_lt HB.out.lt)
        rw [← hst] at h
        exact h)
      have HIS : Hid (IsB st.data.toList (lps n1)) := Lib.hid ⟨hri, by rw [hst]⟩
      have CO : Hid (∀ W, Calls Try.prog 18 #[.string st] W (OpenP st.data.toList W)) := Lib.hid fun W => open_any st (by omega) W
      have HSK := Lib.hid (lps_seek n1 hn4)
      have HRI := Lib.hid hri
      have y0 : ∀ w, (Builtin.min_ #[3, 3] 3 #[.int .i64 (k : Int), .int .i64 4096]).run Try.prog w = .ok (.int .i64 n1) w := fun w => by simp [Builtin.min_, Builtin.min2]; omega
      clear hst hsm hok hri hn1
      go_wp2_with fail
      refine CB.out.mono ?_
      rintro e w3 ⟨rfl, k3⟩
      have K3 := Lib.hid k3
      clear k3
      go_wp2_with fail
      refine (CO.out w3).mono ?_
      rintro e w4 (⟨rfl, hno, k4⟩ | ⟨b4, qs, rfl, hq, hkb, k4⟩)
      · exact absurd HIS.out (hno _)
      · obtain rfl := IsB.one hq HIS.out
        have K4 := Lib.hid (below_mono HK.out (below_mono K3.out k4 (Nat.le_refl _)) (Nat.le_refl _))
        have CL := Lib.hid (klen_any hkb)
        rw [lps_len] at CL
        have CS := Lib.hid (kseek_any hkb HRI.out ⟨#[255]⟩)
        clear hq hkb k4
        go_wp2_with fail
        refine CL.out.mono ?_
        rintro e w5 ⟨rfl, rfl⟩
        go_wp2_with fail
        refine CS.out.mono ?_
        rintro e w5 ⟨m, rfl, hm, rfl⟩
        obtain rfl : m = n1 := hm.one HSK.out
        clear hm
        go_wp2_with fail
        refine CL.out.mono ?_
        rintro e w5 ⟨rfl, rfl⟩
        go_wp2_with fail
        refine (awake_any _).mono ?_
        rintro e w5 ⟨rfl, k5⟩
        have K5 := Lib.hid (below_mono K4.out k5 (Nat.le_refl _))
        clear k5
        go_wp2_with fail
        go_ret
        exact ⟨rfl, K5.out⟩
end Go.Proofs.Ytolmbccdkfbppaa
