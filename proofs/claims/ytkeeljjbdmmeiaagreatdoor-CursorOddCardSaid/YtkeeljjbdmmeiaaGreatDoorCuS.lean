/- Layer 14: Pack, and the law's right, at any key and number. Conditions: those written at each theorem. -/
import Derived.Test.YtkeeljjbdmmeiaaGreatDoorCuR
namespace Go.Proofs.YtkeeljjbdmmeiaaGreatDoor
open Go.RowKit Go.Maps Go.WideShapes
set_option linter.unusedVariables false
set_option linter.unusedSimpArgs false
theorem wraw_any (B b : Nat) (bs : List UInt8) (s : ByteArray) (hs : s.size ≤ 1000000000) (w : World) (h : WrAt B b bs w) (hlen : bs.length ≤ 1000000000) (hBw : B ≤ w.heap.size) :
    Calls Tryz.prog 33 #[.pointer (some ⟨b, 0, none⟩), .string s] w fun e w' => e = .returned (.pointer (some ⟨b, 0, none⟩)) ∧ WrAt B b (bs ++ s.data.toList) w' ∧ Below B w w' := by
  obtain ⟨i0, hi, hz0, hz1, hz2⟩ := info_parts byteInfo
  have hlt := h.lt
  obtain ⟨hB, v, hbk, hown, hne⟩ := h
  have HBK := Lib.hid hbk
  have HNE := Lib.hid hne
  have c0 : w.cell? ⟨b, 0, none⟩ = some v := by rw [Lib.cell_of_heap hbk]; rfl
  clear hbk hne
  go_enter Tryz.func33, Tryz.ntmps33
  go_wp2_with (at_builtin; refine Lib.wpList_append_own_string _ rfl _ _ 66 9 rfl B 5 i0 Tryz.underlying66 Tryz.underlying9 hi hz0 hz1 hz2 _ _ _ rfl hown s rfl ?c3 ?c4 ?c5 ?_)
  case c3 => unfold maxLen; omega
  case c4 => omega
  case c5 => omega
  intro v' w2 hown' hgrow _
  have hb2 : w2.heap[b]? = some (.cells #[v] 68 (0, 0)) := by
    rw [hgrow.block b hlt (fun e => HNE.out e.symm)]
    exact HBK.out
  have d0 : w2.cell? ⟨b, 0, none⟩ = some v := by rw [Lib.cell_of_heap hb2]; rfl
  have f0 : w2.frozen? ⟨b, 0, none⟩ = false := Lib.frozen_of_heap hb2 0
  have hs2 : (bs ++ s.data.toList).length = bs.length + s.size := by simp
  have e2 : Lib.byteCells (bs ++ s.data.toList) = Lib.byteCells bs ++ Lib.strCells s := by simp [Lib.byteCells, Lib.strCells_eq]
  have HW := Lib.hid (WrAt.put hB hb2 (bs' := bs ++ s.data.toList) (by rw [hs2, e2]; exact hown'))
  have HC := Lib.hid (((Below.refl B w).grown hgrow hBw (fun k hk => (hown.lt k hk).1)).setCell (p := ⟨b, 0, none⟩) hB v')
  obtain ⟨ao, n', cap, rfl⟩ : ∃ ao n' cap, v' = .slice ao n' cap := by
    rcases hown'.2 with ⟨hv, _⟩ | ⟨g, cap, cur, hv, _⟩
    · exact ⟨_, _, _, hv⟩
    · exact ⟨_, _, _, hv⟩
  clear hown' hgrow hb2 hown hs2 e2
  go_wp2_with fail
  go_ret
  exact ⟨rfl, HW.out, HC.out⟩
set_option maxHeartbeats 1000000 in
theorem wfixed8_any (B b : Nat) (bs : List UInt8) (n : Nat) (hn : n < 18446744073709551616) (w : World) (h : WrAt B b bs w) (hlen : bs.length ≤ 1000000000) (hBw : B ≤ w.heap.size) :
    Calls Tryz.prog 34 #[.pointer (some ⟨b, 0, none⟩), .int .u64 n] w fun e w' => e = .returned (.pointer (some ⟨b, 0, none⟩)) ∧ WrAt B b (bs ++ fx n 8) w' ∧ Below B w w' := by
  have H := Lib.hid h
  clear h
  go_enter Tryz.func34, Tryz.ntmps34
  go_wp2_with fail
  refine (wfixed_any B b bs n (by omega) 8 (by omega) _ H.out hlen hBw).mono ?_
  rintro e w1 ⟨rfl, h1, h2⟩
  have H1 := Lib.hid h1
  clear h1
  go_wp2_with fail
  go_ret
  exact ⟨rfl, H1.out, h2⟩
/-- May a key and a number be? -/
def rt (key : ByteArray) (seq : Int) : Bool := rk key && (decide (0 ≤ seq) && decide (seq ≤ 4611686018427387904))
set_option maxRecDepth 100000 in
set_option maxHeartbeats 4000000 in
theorem right_any (key : ByteArray) (seq : Int) (hs : key.size ≤ maxLen) (w : World) : Calls Tryz.prog 10 #[.string key, .int .i64 seq] w fun e w' => e = .returned (.bool (rt key seq)) ∧ w = w' := by
  have hs63 : key.size < 9223372036854775808 := by unfold maxLen at hs; omega
  have hz : Hid (key.data.toList.length = key.size) := Lib.hid (by simp)
  obtain ⟨R, hR⟩ : ∃ r, r = rt key seq := ⟨_, rfl⟩
  rw [← hR]
  have HR := Lib.hid hR
  clear hR hs
  by_cases a1 : key.size < 1
  · have b1 : (key.size : Int) < 1 := by omega
    obtain rfl : R = false := by rw [HR.out]; unfold rt rk; rw [decide_eq_false (by omega : ¬ 1 ≤ key.size)]; rfl
    go_enter Tryz.func10, Tryz.ntmps10
    go_wp2_with fail
    exact bodyPost_ret (v := .bool false) (by simp [results, Tryz.results10, go_sem]) rfl ⟨rfl, rfl⟩
  have b1 : ¬ (key.size : Int) < 1 := by omega
  by_cases a2 : 64 < key.size
  · have b2 : (64 : Int) < (key.size : Int) := by omega
    obtain rfl : R = false := by rw [HR.out]; unfold rt rk; rw [decide_eq_false (by omega : ¬ key.size ≤ 64)]; simp
    go_enter Tryz.func10, Tryz.ntmps10
    go_wp2_with fail
    exact bodyPost_ret (v := .bool false) (by simp [results, Tryz.results10, go_sem]) rfl ⟨rfl, rfl⟩
  have b2 : ¬ (64 : Int) < (key.size : Int) := by omega
  by_cases a3 : seq < 0
  · obtain rfl : R = false := by rw [HR.out]; unfold rt; rw [decide_eq_false (by omega : ¬ 0 ≤ seq)]; simp
    go_enter Tryz.func10, Tryz.ntmps10
    go_wp2_with fail
    exact bodyPost_ret (v := .bool false) (by simp [results, Tryz.results10, go_sem]) rfl ⟨rfl, rfl⟩
  by_cases a4 : 4611686018427387904 < seq
  · obtain rfl : R = false := by rw [HR.out]; unfold rt; rw [decide_eq_false (by omega : ¬ seq ≤ 4611686018427387904)]; simp
    go_enter Tryz.func10, Tryz.ntmps10
    go_wp2_with fail
    exact bodyPost_ret (v := .bool false) (by simp [results, Tryz.results10, go_sem]) rfl ⟨rfl, rfl⟩
  have HX : Hid (R = decide (Lib.indexByte key.data.toList 0 < 0)) := Lib.hid (by
    rw [HR.out]; unfold rt rk
    rw [decide_eq_true (by omega : 1 ≤ key.size), decide_eq_true (by omega : key.size ≤ 64), decide_eq_true (by omega : 0 ≤ seq), decide_eq_true (by omega : seq ≤ 4611686018427387904)]; simp)
  go_enter Tryz.func10, Tryz.ntmps10
  go_upto_region 4 with fail
  go_loopw [5] (fun i wr => ∃ k : Nat, k ≤ key.size ∧ i = .int .i64 k ∧ Hid (∀ j, j < k → key.data.toList[j]? ≠ some 0) ∧ w = wr) (fun i _ => key.size - (intOf i).toNat)
  case atStart => exact ⟨0, by omega, rfl, Lib.hid (fun j hj => by omega), rfl⟩
  case round =>
    obtain ⟨k, hk, rfl, HK, rfl⟩ := hrel
    by_cases hlt : k < key.size
    · have hlt2 : (k : Int) < (key.size : Int) := by omega
      have n0 : (0 : Int) ≤ (k : Int) := by omega
      obtain ⟨bt, hbt⟩ : ∃ b, b = key[k] := ⟨_, rfl⟩
      have HBT : Hid (key[k] = bt) := Lib.hid hbt.symm
      have HL : Hid (key.data.toList[k]? = some bt) := Lib.hid (by
        rw [List.getElem?_eq_getElem (by rw [hz.out]; exact hlt), hbt]
        rfl)
      clear hbt
      by_cases hzz : bt = 0
      · subst hzz
        have hbz : ((key[k].toNat : Int) == 0) = true := by rw [HBT.out]; rfl
        obtain rfl : R = false := by
          rw [HX.out, decide_eq_false]
          intro hl
          exact Lib.indexByte_none (by have := Lib.indexByte_ge key.data.toList 0; omega) k HL.out
        go_wp2_with fail
        exact bodyPost_ret (v := .bool false) (by simp [results, Tryz.results10, go_sem]) rfl ⟨rfl, rfl⟩
      · have hbz : ((key[k].toNat : Int) == 0) = false := by
          rw [HBT.out]
          simp only [beq_eq_false_iff_ne, ne_eq]
          intro h0
          exact hzz (UInt8.toNat_inj.1 (by rw [UInt8.toNat_zero]; omega))
        go_wp2_with fail
        go_roundw
        case rel => exact ⟨k + 1, by omega, by go_num, Lib.hid (fun j hj => by
          by_cases h : j = k
          · subst h
            rw [HL.out]
            intro h0
            exact hzz (Option.some.inj h0)
          · exact HK.out j (by omega)), trivial⟩
        case measure => simp [intOf]; omega
    · obtain rfl : k = key.size := by omega
      obtain rfl : R = true := by
        rw [HX.out, decide_eq_true]
        rcases Int.lt_or_le (Lib.indexByte key.data.toList 0) 0 with hl | hg
        · exact hl
        · obtain ⟨o, ho⟩ := Int.eq_ofNat_of_zero_le hg
          have h1 := (Lib.indexByte_some ho).1
          have h2 := (List.getElem?_eq_some_iff.1 h1).1
          rw [hz.out] at h2
          exact absurd h1 (HK.out o h2)
      go_wp2_with fail
      exact bodyPost_ret (v := .bool true) (by simp [results, Tryz.results10, go_sem]) rfl ⟨rfl, rfl⟩
/-- What Pack answers. -/
def pkS (key : ByteArray) (seq : Int) : ByteArray := if rt key seq then inn key seq.toNat else ⟨#[]⟩
theorem rk_size {key : ByteArray} (h : rk key = true) : key.size ≤ 64 := by
  unfold rk at h
  simp only [Bool.and_eq_true, decide_eq_true_eq] at h
  exact h.2.1
set_option maxRecDepth 100000 in
set_option maxHeartbeats 4000000 in
theorem pack_any (key : ByteArray) (seq : Int) (w : World) : Calls Tryz.prog 9 #[.string key, .int .i64 seq] w fun e w' => e = .returned (.tuple #[.string (pkS key seq), .bool (rt key seq)]) ∧ Below w.heap.size w w' := by
  have CR := Lib.hid (fun W => rk_any key W)
  obtain ⟨r, hr⟩ : ∃ r, r = rk key := ⟨_, rfl⟩
  have HR := Lib.hid hr
  rw [← hr] at CR
  obtain ⟨R, hR⟩ : ∃ R, R = rt key seq := ⟨_, rfl⟩
  have HRT : Hid (R = (r && (decide (0 ≤ seq) && decide (seq ≤ 4611686018427387904)))) := Lib.hid (by rw [hR, hr]; rfl)
  have HP : Hid (pkS key seq = if R then inn key seq.toNat else ⟨#[]⟩) := Lib.hid (by rw [hR]; rfl)
  obtain ⟨ps, hps⟩ : ∃ ps, ps = pkS key seq := ⟨_, rfl⟩
  rw [← hps] at HP ⊢
  rw [← hR]
  clear hr hR hps
  have hF : R = false → ps = ⟨#[]⟩ := fun e => by rw [HP.out, e]; rfl
  cases r with
  | false =>
    obtain rfl : R = false := by rw [HRT.out]; rfl
    obtain rfl := hF rfl
    clear hF
    go_enter Tryz.func9, Tryz.ntmps9
    go_wp2_with (go_at_call 32; (with_reducible refine (CR.out _).mono ?_); rintro e w2 ⟨rfl, rfl⟩)
    exact bodyPost_ret (v := .tuple #[.string ⟨#[]⟩, .bool false]) (by simp [results, Tryz.results9, go_sem]) rfl ⟨rfl, Below.refl _ _⟩
  | true =>
    by_cases a3 : seq < 0
    · obtain rfl : R = false := by rw [HRT.out, decide_eq_false (by omega : ¬ 0 ≤ seq)]; rfl
      obtain rfl := hF rfl
      clear hF
      go_enter Tryz.func9, Tryz.ntmps9
      go_wp2_with (go_at_call 32; (with_reducible refine (CR.out _).mono ?_); rintro e w2 ⟨rfl, rfl⟩)
      exact bodyPost_ret (v := .tuple #[.string ⟨#[]⟩, .bool false]) (by simp [results, Tryz.results9, go_sem]) rfl ⟨rfl, Below.refl _ _⟩
    by_cases a4 : 4611686018427387904 < seq
    · obtain rfl : R = false := by rw [HRT.out, decide_eq_false (by omega : ¬ seq ≤ 4611686018427387904)]; simp
      obtain rfl := hF rfl
      clear hF
      go_enter Tryz.func9, Tryz.ntmps9
      go_wp2_with (go_at_call 32; (with_reducible refine (CR.out _).mono ?_); rintro e w2 ⟨rfl, rfl⟩)
      exact bodyPost_ret (v := .tuple #[.string ⟨#[]⟩, .bool false]) (by simp [results, Tryz.results9, go_sem]) rfl ⟨rfl, Below.refl _ _⟩
    obtain rfl : R = true := by rw [HRT.out, decide_eq_true (by omega : 0 ≤ seq), decide_eq_true (by omega : seq ≤ 4611686018427387904)]; rfl
    have hsz := rk_size HR.out.symm
    obtain ⟨m, hm⟩ : ∃ m : Nat, m = 4611686018427387904 - seq.toNat := ⟨_, rfl⟩
    have hm1 : m < 18446744073709551616 := by omega
    have q1 : IntKind.i64.wrap (4611686018427387904 - seq) = (m : Int) := by rw [IntKind.wrap_i64]; omega
    have q2 : IntKind.u64.wrap (m : Int) = (m : Int) := by rw [IntKind.wrap_u64]; omega
    have HPS : Hid (ps = ⟨(([] ++ key.data.toList ++ (⟨#[0]⟩ : ByteArray).data.toList) ++ fx m 8).toArray⟩) := Lib.hid (by
      rw [HP.out, if_pos rfl, hm]
      unfold inn
      apply ByteArray.ext
      apply Array.ext'
      simp [ByteArray.data_append])
    obtain ⟨out, hout⟩ : ∃ o, o = ps := ⟨_, rfl⟩
    have HLn : Hid (([] ++ key.data.toList).length ≤ 1000000000 ∧ ([] ++ key.data.toList ++ (⟨#[0]⟩ : ByteArray).data.toList).length ≤ 1000000000 ∧ key.size ≤ 1000000000) := Lib.hid (by
      simp
      omega)
    have HK0 := Lib.hid (Below.refl w.heap.size w)
    have HFr : Hid (∀ W, w.alloc (.cells #[.slice none 0 0] 68) = W → WrAt w.heap.size w.heap.size [] W ∧ Below w.heap.size w W) := Lib.hid (by
      rintro W rfl
      exact ⟨WrAt.fresh w, (Below.refl _ _).alloc (Nat.le_refl _) _⟩)
    clear hm hsz hF HP HRT
    go_enter Tryz.func9, Tryz.ntmps9
    go_wp2_with (first
      | (go_at_call 32; (with_reducible refine (CR.out _).mono ?_); rintro e w2 ⟨rfl, rfl⟩)
      | (go_at_call 33; obtain ⟨h1, h2⟩ := HFr.out _ rfl; have HB1 := Lib.hid h2; (with_reducible refine (wraw_any w.heap.size w.heap.size [] key HLn.out.2.2 _ h1 (by simp) h2.size).mono ?_); rintro e w3 ⟨rfl, h3, h4⟩; have HW3 := Lib.hid h3; have HB3 := Lib.hid (HB1.out.trans h4); clear h1 h2 h3 h4)
      | (go_at_call 33; (with_reducible refine (wraw_any w.heap.size w.heap.size ([] ++ key.data.toList) ⟨#[0]⟩ (by decide +kernel) _ HW3.out HLn.out.1 HB3.out.size).mono ?_); rintro e w4 ⟨rfl, h3, h4⟩; have HW4 := Lib.hid h3; have HB4 := Lib.hid (HB3.out.trans h4); clear h3 h4)
      | (go_at_call 34; (with_reducible refine (wfixed8_any w.heap.size w.heap.size ([] ++ key.data.toList ++ (⟨#[0]⟩ : ByteArray).data.toList) m hm1 _ HW4.out HLn.out.2.1 HB4.out.size).mono ?_); rintro e w5 ⟨rfl, h3, h4⟩; have HW5 := Lib.hid h3; have HB5 := Lib.hid (HB4.out.trans h4); clear h3 h4)
      | (go_at_call 35; (with_reducible refine (wbytes_any w.heap.size w.heap.size _ _ HW5.out).mono ?_); rintro e w6 ⟨rfl, rfl⟩))
    exact bodyPost_ret (v := .tuple #[.string ps, .bool true]) (by simp [results, Tryz.results9, go_sem, HPS.out]) rfl ⟨rfl, HB5.out⟩
end Go.Proofs.YtkeeljjbdmmeiaaGreatDoor
