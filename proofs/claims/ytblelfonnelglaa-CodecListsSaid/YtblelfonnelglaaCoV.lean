/- The writer of package codec beside others: what stands below a block, but for the writer's own, is kept. No conditions beyond those written. -/
import Derived.Test.YtblelfonnelglaaCoH
namespace Go.Proofs.Ytblelfonnelglaa
open Go.RowKit
set_option linter.unusedSimpArgs false
set_option linter.unusedVariables false

theorem SAt.beside {B b B0 : Nat} {ao : Option Addr} {vs : List Value} {w w' : World} (h : SAt B0 ao vs w) (k : Beside B b w w') (h0 : B0 ≤ B) (h1 : B0 ≤ b) : SAt B0 ao vs w' := h.under (k.below h0 h1)

/-- A writer in block b (of the call's own, from B on) that holds the bytes bs. -/
def WrB (B b : Nat) (bs : List UInt8) (w : World) : Prop :=
  True ∧ ∃ v, w.heap[b]? = some (.cells #[v] 28 (0, 0)) ∧ w.ownsRow B 5 1 v bs.length (Lib.byteCells bs) ∧ v.ownBlock ≠ some b

theorem WrB.lt {B b : Nat} {bs : List UInt8} {w : World} (h : WrB B b bs w) : b < w.heap.size := by
  obtain ⟨_, v, hb, _⟩ := h
  rcases Nat.lt_or_ge b w.heap.size with h' | h'
  · exact h'
  · simp [Array.getElem?_eq_none h'] at hb

theorem WrB.put {B b : Nat} {v v' : Value} {bs' : List UInt8} {w : World} (hB : True) (hb : w.heap[b]? = some (.cells #[v] 28 (0, 0))) (hown : w.ownsRow B 5 1 v' bs'.length (Lib.byteCells bs')) :
    WrB B b bs' (w.setCell ⟨b, 0, none⟩ v') := by
  have hne := Lib.ownBlock_ne hown hb (by decide)
  refine ⟨hB, v', ?_, ?_, hne⟩
  · simp [World.setCell, Array.getElem?_modify, hb]
  · exact hown.kept (row := some b) ⟨rfl, rfl, rfl, by simp [World.setCell], fun k _ hk => Below.heap_setCell _ _ _ _ (fun e => hk (by simp [e]))⟩ (Or.inr hne)

/-- What an append of one byte and the store behind it leave. -/
theorem vr_push {B b : Nat} {bs : List UInt8} {c : UInt8} {v v' : Value} {w1 w2 : World} {o : Obj} (hB : True) (hlt : b < w1.heap.size) (hbk : w1.heap[b]? = some (.cells #[v] 28 (0, 0))) (hne : v.ownBlock ≠ some b)
    (hgrow : (w1.alloc o).grownBy w2 v.ownBlock) (hown' : w2.ownsRow B 5 1 v' (bs.length + 1) (Lib.byteCells bs ++ [.int .u8 (c.toNat : Int)])) :
    WrB B b (bs ++ [c]) (w2.setCell ⟨b, 0, none⟩ v') := by
  have hb2 : w2.heap[b]? = some (.cells #[v] 28 (0, 0)) := by
    rw [hgrow.block b (by simp; omega) (fun e => hne e.symm), Below.heap_alloc w1 _ b hlt]
    exact hbk
  exact WrB.put hB hb2 (by rw [byteCells_snoc]; simpa using hown')

set_option maxRecDepth 100000 in
set_option maxHeartbeats 2000000 in
theorem vgroups_any (B b : Nat) (bs : List UInt8) (n : Nat) (hn : n ≤ 18446744073709551615) (w : World) (h : WrB B b bs w) (hlen : bs.length ≤ 1000000000) (hBw : B ≤ w.heap.size) :
    Calls Try.prog 43 #[.pointer (some ⟨b, 0, none⟩), .int .u64 n] w fun e w' => e = .returned (.pointer (some ⟨b, 0, none⟩)) ∧ WrB B b (bs ++ grp n) w' ∧ Beside B b w w' := by
  obtain ⟨i0, hi, hz0, hz1, hz2⟩ := info_parts byteInfo
  have hr := Beside.refl B b w
  go_enter Try.func43, Try.ntmps43
  go_wp2_with fail
  go_loopw [1] (fun k wr => ∃ (m : Nat) (r : List UInt8), m ≤ 18446744073709551615 ∧ k = .int .u64 m ∧ r ++ grp m = bs ++ grp n ∧ WrB B b r wr ∧ Beside B b w wr) (fun k _ => (intOf k).toNat)
  case atStart => exact ⟨n, bs, hn, rfl, rfl, h, hr⟩
  case round =>
    obtain ⟨m, r, hm, rfl, hrr, hwr, hbe⟩ := hrel
    have hrl : r.length ≤ 1000000010 := by
      have e := congrArg List.length hrr
      have e2 := grp_len10 hn
      simp at e; omega
    have hlt := hwr.lt
    obtain ⟨hB, v, hbk, hown, hne⟩ := hwr
    have HBK := Lib.hid hbk
    have HNE := Lib.hid hne
    have HBE := Lib.hid hbe
    have c0 : wr.cell? ⟨b, 0, none⟩ = some v := by rw [Lib.cell_of_heap hbk]; rfl
    clear hbk hne hbe h hr
    by_cases h128 : m < 128
    · go_wp2_with (at_builtin; refine wpList_append_own _ rfl _ _ 26 rfl B 5 i0 (.int .u8 0) 1 1 Try.underlying26 hi hz0 hz1 hz2 rfl (by decide) _ _ _ rfl (hown.alloc _) ⟨wr.heap.size, 0, none⟩ 1 1 [.int .u8 (m : Int)] rfl rfl ?c1 ?c2 ?c3 ?c4 ?c5 ?_)
      case c1 =>
        intro j u hj
        match j, hj with
        | 0, hj => simp at hj; subst hj; simp [Addr.add]
      case c2 => intro u hu; simp at hu; subst hu; rfl
      case c3 => unfold maxLen; omega
      case c4 => omega
      case c5 => have := HBE.out.size; simp; omega
      intro v' w2 hown' hgrow _
      have HW := Lib.hid (vr_push (c := UInt8.ofNat m) hB hlt HBK.out HNE.out hgrow (by rw [u8_toNat m (by omega)]; exact hown'))
      have HC := Lib.hid (((HBE.out.alloc (by have := HBE.out.size; omega) _).grown hgrow (by have := HBE.out.size; simp; omega) (fun k hk => (hown.lt k hk).1)).setCell v')
      have hb2 : w2.heap[b]? = some (.cells #[v] 28 (0, 0)) := by
        rw [hgrow.block b (by simp; omega) (fun e => HNE.out e.symm), Below.heap_alloc wr _ b hlt]
        exact HBK.out
      have d0 : w2.cell? ⟨b, 0, none⟩ = some v := by rw [Lib.cell_of_heap hb2]; rfl
      have f0 : w2.frozen? ⟨b, 0, none⟩ = false := Lib.frozen_of_heap hb2 0
      obtain ⟨g, cap, rfl⟩ : ∃ g cap, v' = .slice (some ⟨g, 0, none⟩) (r.length + 1) cap := by
        rcases hown'.2 with ⟨_, h0⟩ | ⟨g, cap, cur, hv, _⟩
        · omega
        · exact ⟨g, cap, hv⟩
      clear hown' hgrow hb2 hown
      go_wp2_with fail
      go_ret
      refine ⟨rfl, ?_, HC.out⟩
      have e := hrr
      rw [grp_small h128] at e
      rw [← e]
      exact HW.out
    · have hor := or128 m
      go_wp2_with (at_builtin; refine wpList_append_own _ rfl _ _ 26 rfl B 5 i0 (.int .u8 0) 1 1 Try.underlying26 hi hz0 hz1 hz2 rfl (by decide) _ _ _ rfl (hown.alloc _) ⟨wr.heap.size, 0, none⟩ 1 1 [.int .u8 ((m : Int) % 128 + 128)] rfl rfl ?c1 ?c2 ?c3 ?c4 ?c5 ?_)
      case c1 =>
        intro j u hj
        match j, hj with
        | 0, hj => simp at hj; subst hj; simp [Addr.add]
      case c2 => intro u hu; simp at hu; subst hu; rfl
      case c3 => unfold maxLen; omega
      case c4 => omega
      case c5 => have := HBE.out.size; simp; omega
      intro v' w2 hown' hgrow _
      have HW := Lib.hid (vr_push (c := UInt8.ofNat (m % 128 + 128)) hB hlt HBK.out HNE.out hgrow (by rw [u8_toNat _ (by omega)]; simpa using hown'))
      have HC := Lib.hid (((HBE.out.alloc (by have := HBE.out.size; omega) _).grown hgrow (by have := HBE.out.size; simp; omega) (fun k hk => (hown.lt k hk).1)).setCell v')
      have hb2 : w2.heap[b]? = some (.cells #[v] 28 (0, 0)) := by
        rw [hgrow.block b (by simp; omega) (fun e => HNE.out e.symm), Below.heap_alloc wr _ b hlt]
        exact HBK.out
      have d0 : w2.cell? ⟨b, 0, none⟩ = some v := by rw [Lib.cell_of_heap hb2]; rfl
      have f0 : w2.frozen? ⟨b, 0, none⟩ = false := Lib.frozen_of_heap hb2 0
      obtain ⟨g, cap, rfl⟩ : ∃ g cap, v' = .slice (some ⟨g, 0, none⟩) (r.length + 1) cap := by
        rcases hown'.2 with ⟨_, h0⟩ | ⟨g, cap, cur, hv, _⟩
        · omega
        · exact ⟨g, cap, hv⟩
      clear hown' hgrow hb2 hown
      go_wp2_with fail
      go_roundw
      case rel => exact ⟨m / 128, r ++ [UInt8.ofNat (m % 128 + 128)], by omega, by go_num, by rw [← hrr, grp_big h128]; simp, HW.out, HC.out⟩
      case measure => simp [intOf]; omega
theorem vsize_any (B b : Nat) (bs : List UInt8) (n : Nat) (hn : n ≤ 9223372036854775807) (w : World) (h : WrB B b bs w) (hlen : bs.length ≤ 1000000000) (hBw : B ≤ w.heap.size) :
    Calls Try.prog 11 #[.pointer (some ⟨b, 0, none⟩), .int .i64 n] w fun e w' => e = .returned (.pointer (some ⟨b, 0, none⟩)) ∧ WrB B b (bs ++ grp n) w' ∧ Beside B b w w' := by
  have H := Lib.hid h
  clear h
  go_enter Try.func11, Try.ntmps11
  go_wp2_with fail
  refine (vgroups_any B b bs n (by omega) _ H.out hlen hBw).mono ?_
  rintro e w1 ⟨rfl, h1, h2⟩
  have H1 := Lib.hid h1
  clear h1
  go_wp2_with fail
  go_ret
  exact ⟨rfl, H1.out, h2⟩

theorem vsigned_any (B b : Nat) (bs : List UInt8) (n : Int) (hn : -9223372036854775808 ≤ n) (hn' : n ≤ 9223372036854775807) (w : World) (h : WrB B b bs w) (hlen : bs.length ≤ 1000000000) (hBw : B ≤ w.heap.size) :
    Calls Try.prog 12 #[.pointer (some ⟨b, 0, none⟩), .int .i64 n] w fun e w' => e = .returned (.pointer (some ⟨b, 0, none⟩)) ∧ WrB B b (bs ++ grp (zig n)) w' ∧ Beside B b w w' := by
  have H := Lib.hid h
  clear h
  by_cases h0 : 0 ≤ n
  · go_enter Try.func12, Try.ntmps12
    go_wp2_with fail
    rw [zig_pos n h0 hn']
    refine (vgroups_any B b bs (zig n) (zig_bd n hn hn') _ H.out hlen hBw).mono ?_
    rintro e w1 ⟨rfl, h1, h2⟩
    have H1 := Lib.hid h1
    clear h1
    go_wp2_with fail
    go_ret
    exact ⟨rfl, H1.out, h2⟩
  · go_enter Try.func12, Try.ntmps12
    go_wp2_with fail
    rw [zig_neg n (by omega) hn]
    refine (vgroups_any B b bs (zig n) (zig_bd n hn hn') _ H.out hlen hBw).mono ?_
    rintro e w1 ⟨rfl, h1, h2⟩
    have H1 := Lib.hid h1
    clear h1
    go_wp2_with fail
    go_ret
    exact ⟨rfl, H1.out, h2⟩

theorem vraw_any (B b : Nat) (bs : List UInt8) (s : ByteArray) (hs : s.size ≤ 1000000000) (w : World) (h : WrB B b bs w) (hlen : bs.length ≤ 1000000000) (hBw : B ≤ w.heap.size) :
    Calls Try.prog 16 #[.pointer (some ⟨b, 0, none⟩), .string s] w fun e w' => e = .returned (.pointer (some ⟨b, 0, none⟩)) ∧ WrB B b (bs ++ s.data.toList) w' ∧ Beside B b w w' := by
  obtain ⟨i0, hi, hz0, hz1, hz2⟩ := info_parts byteInfo
  have hlt := h.lt
  obtain ⟨hB, v, hbk, hown, hne⟩ := h
  have HBK := Lib.hid hbk
  have HNE := Lib.hid hne
  have c0 : w.cell? ⟨b, 0, none⟩ = some v := by rw [Lib.cell_of_heap hbk]; rfl
  clear hbk hne
  go_enter Try.func16, Try.ntmps16
  go_wp2_with (at_builtin; refine Lib.wpList_append_own_string _ rfl _ _ 26 9 rfl B 5 i0 Try.underlying26 Try.underlying9 hi hz0 hz1 hz2 _ _ _ rfl hown s rfl ?c3 ?c4 ?c5 ?_)
  case c3 => unfold maxLen; omega
  case c4 => omega
  case c5 => omega
  intro v' w2 hown' hgrow _
  have hb2 : w2.heap[b]? = some (.cells #[v] 28 (0, 0)) := by
    rw [hgrow.block b hlt (fun e => HNE.out e.symm)]
    exact HBK.out
  have d0 : w2.cell? ⟨b, 0, none⟩ = some v := by rw [Lib.cell_of_heap hb2]; rfl
  have f0 : w2.frozen? ⟨b, 0, none⟩ = false := Lib.frozen_of_heap hb2 0
  have hs2 : (bs ++ s.data.toList).length = bs.length + s.size := by simp
  have e2 : Lib.byteCells (bs ++ s.data.toList) = Lib.byteCells bs ++ Lib.strCells s := by simp [Lib.byteCells, Lib.strCells_eq]
  have HW := Lib.hid (WrB.put hB hb2 (bs' := bs ++ s.data.toList) (by rw [hs2, e2]; exact hown'))
  have HC := Lib.hid (((Beside.refl B b w).grown hgrow hBw (fun k hk => (hown.lt k hk).1)).setCell v')
  obtain ⟨ao, n', cap, rfl⟩ : ∃ ao n' cap, v' = .slice ao n' cap := by
    rcases hown'.2 with ⟨hv, _⟩ | ⟨g, cap, cur, hv, _⟩
    · exact ⟨_, _, _, hv⟩
    · exact ⟨_, _, _, hv⟩
  clear hown' hgrow hb2 hown hs2 e2
  go_wp2_with fail
  go_ret
  exact ⟨rfl, HW.out, HC.out⟩

theorem vtext_any (B b : Nat) (bs : List UInt8) (s : ByteArray) (hs : s.size ≤ 900000000) (w : World) (h : WrB B b bs w) (hlen : bs.length ≤ 900000000) (hBw : B ≤ w.heap.size) :
    Calls Try.prog 15 #[.pointer (some ⟨b, 0, none⟩), .string s] w fun e w' => e = .returned (.pointer (some ⟨b, 0, none⟩)) ∧ WrB B b (bs ++ grp s.size ++ s.data.toList) w' ∧ Beside B b w w' := by
  have H := Lib.hid h
  have hg := grp_len10 (n := s.size) (by omega)
  clear h
  go_enter Try.func15, Try.ntmps15
  go_wp2_with fail
  refine (vsize_any B b bs s.size (by omega) _ H.out (by omega) hBw).mono ?_
  rintro e w1 ⟨rfl, h1, h2⟩
  have H1 := Lib.hid h1
  have H2 := Lib.hid h2
  clear h1 h2
  go_wp2_with fail
  refine (vraw_any B b _ s (by omega) _ H1.out (by simp; omega) (Nat.le_trans hBw H2.out.size)).mono ?_
  rintro e w2 ⟨rfl, h3, h4⟩
  have H3 := Lib.hid h3
  have H4 := Lib.hid (H2.out.trans h4)
  clear h3 h4
  go_wp2_with fail
  go_ret
  exact ⟨rfl, H3.out, H4.out⟩

theorem vbytes_any (B b : Nat) (bs : List UInt8) (w : World) (h : WrB B b bs w) :
    Calls Try.prog 21 #[.pointer (some ⟨b, 0, none⟩)] w fun e w' => e = .returned (.string ⟨bs.toArray⟩) ∧ w = w' := by
  obtain ⟨hB, v, hbk, hown, hne⟩ := h
  have c0 : w.cell? ⟨b, 0, none⟩ = some v := by rw [Lib.cell_of_heap hbk]; rfl
  have hcv : (convert 26 9 v).run Try.prog w = .ok (.string ⟨bs.toArray⟩) w := by
    rcases hown.2 with ⟨rfl, h0⟩ | ⟨g, cap, cur, rfl, _, hg, _⟩
    · have : bs = [] := List.eq_nil_of_length_eq_zero h0
      subst this
      exact run_convert_bytes_nil (P := Try.prog) w 26 5 Try.underlying26 Try.underlying5 _ _ _ Try.underlying9
    · rw [← strOf_bytes]
      refine run_convert_bytes_arg (P := Try.prog) w 26 5 Try.underlying26 Try.underlying5 g 0 bs.length cap (bs.map fun c => (c.toNat : Int)) (by simp) (fun i hi => ?_) _ Try.underlying9
      have ha : (⟨g, 0, none⟩ : Addr).add i = ⟨g, 0 + i, none⟩ := by unfold Addr.add; split <;> simp_all
      have := hown.cells (g := g) rfl i (.int .u8 (bs[i].toNat : Int)) (by simp [Lib.byteCells, hi])
      rw [ha] at this
      simpa [hi] using this
  clear hbk hown hne
  go_enter Try.func21, Try.ntmps21
  go_wp2_with fail
  go_ret
  exact ⟨rfl, rfl⟩
set_option maxRecDepth 100000 in
set_option maxHeartbeats 4000000 in
theorem vputS (b : Nat) (bs : List UInt8) (ao : Option Addr) (cap : Nat) (xs : List ByteArray) (hok : ∀ x ∈ xs, x.size ≤ 400) (hlen : bs.length ≤ 1000000) (hn : xs.length ≤ 1000) (w : World) (B B0 : Nat) (hB0 : B0 ≤ B) (hB1 : B0 ≤ b) (hBw : B ≤ w.heap.size) (h : WrB B b bs w) (hl : SAt B0 ao (strs xs) w) :
    Calls Try.prog 49 #[.pointer (some ⟨b, 0, none⟩), .slice ao xs.length cap, .func (.func 15) #[] #[]] w fun e w' => e = .returned (.tuple #[]) ∧ WrB B b (bs ++ grp xs.length ++ flat xs) w' ∧ Beside B b w w' := by
  have hbw := h.lt
  have hfl := lens_txt xs hok
  obtain ⟨n, hnn⟩ : ∃ n : Nat, n = xs.length := ⟨_, rfl⟩
  have hnl := grp_len10 (n := n) (by omega)
  have H := Lib.hid h
  have HS := Lib.hid hl
  have HOK := Lib.hid hok
  have HNN := Lib.hid hnn
  have HFL := Lib.hid hfl
  rw [← hnn] at hn ⊢
  clear h hl hok hnn hfl
  go_enter Try.func49, Try.ntmps49
  go_wp2_with fail
  refine (vsize_any B b bs n (by omega) _ H.out (by omega) hBw).mono ?_
  rintro e w1 ⟨rfl, h1, k1⟩
  have H1 := Lib.hid h1
  have K1 := Lib.hid k1
  clear h1 k1
  go_wp2_with fail
  go_loopw [14] (fun i wr => ∃ k : Nat, k ≤ n ∧ i = .int .i64 k ∧ Hid (WrB B b (bs ++ grp n ++ flat (xs.take k)) wr) ∧ Hid (Beside B b w wr)) (fun i _ => n - (intOf i).toNat)
  case atStart => exact ⟨0, by omega, rfl, Lib.hid (by simpa [flat] using H1.out), K1⟩
  case round =>
    obtain ⟨k, hk, rfl, HW, HB⟩ := hrel
    by_cases hlt : k < n
    · have hkx : k < xs.length := by rw [← HNN.out]; exact hlt
      have hls : (strs xs).length = xs.length := by simp [strs]
      obtain ⟨a, rfl⟩ := HS.out.1 (by omega)
      have hc : wr.cell? (a.add k) = some (.string xs[k]) := ((HS.out.beside HB.out hB0 hB1).2 a rfl (by omega)).2 k _ (by simp [strs, hkx])
      have HX := Lib.hid (flat_take xs k hkx)
      have hox := HOK.out xs[k] (List.getElem_mem hkx)
      have HZ : Hid ((bs ++ grp n ++ flat (xs.take k)).length ≤ 900000000) := Lib.hid (by
        have e : flat xs = flat (xs.take k) ++ flat (xs.drop k) := by rw [← flat_append, List.take_append_drop]
        have := HFL.out
        have hq := HNN.out
        rw [e] at this
        simp only [List.length_append] at this ⊢; omega)
      generalize xs[k] = x at *
      clear hls
      go_wp2_with fail
      refine (vtext_any B b _ x (by omega) _ HW.out HZ.out (Nat.le_trans hBw HB.out.size)).mono ?_
      rintro e w2 ⟨rfl, h2, k2⟩
      have H2 := Lib.hid h2
      have K2 := Lib.hid (HB.out.trans k2)
      clear h2 k2
      go_wp2_with fail
      go_roundw
      case rel =>
        refine ⟨k + 1, by omega, by go_num, Lib.hid ?_, K2⟩
        rw [HX.out]
        have := H2.out
        unfold one_
        simpa [List.append_assoc] using this
      case measure => simp [intOf]; omega
    · obtain rfl : k = n := by omega
      have e : xs.take k = xs := by rw [HNN.out]; exact List.take_length
      rw [e] at HW
      go_wp2_with fail
      go_end0
      exact ⟨rfl, HW.out, HB.out⟩

set_option maxRecDepth 100000 in
set_option maxHeartbeats 4000000 in
theorem vputI (b : Nat) (bs : List UInt8) (ao : Option Addr) (cap : Nat) (xs : List Int) (hok : ∀ x ∈ xs, -9223372036854775808 ≤ x ∧ x ≤ 9223372036854775807) (hlen : bs.length ≤ 1000000) (hn : xs.length ≤ 1000) (w : World) (B B0 : Nat) (hB0 : B0 ≤ B) (hB1 : B0 ≤ b) (hBw : B ≤ w.heap.size) (h : WrB B b bs w) (hl : SAt B0 ao (ints xs) w) :
    Calls Try.prog 50 #[.pointer (some ⟨b, 0, none⟩), .slice ao xs.length cap, .func (.func 12) #[] #[]] w fun e w' => e = .returned (.tuple #[]) ∧ WrB B b (bs ++ grp xs.length ++ flatI xs) w' ∧ Beside B b w w' := by
  have hbw := h.lt
  have hfl := lens_int xs hok
  obtain ⟨n, hnn⟩ : ∃ n : Nat, n = xs.length := ⟨_, rfl⟩
  have hnl := grp_len10 (n := n) (by omega)
  have H := Lib.hid h
  have HS := Lib.hid hl
  have HOK := Lib.hid hok
  have HNN := Lib.hid hnn
  have HFL := Lib.hid hfl
  rw [← hnn] at hn ⊢
  clear h hl hok hnn hfl
  go_enter Try.func50, Try.ntmps50
  go_wp2_with fail
  refine (vsize_any B b bs n (by omega) _ H.out (by omega) hBw).mono ?_
  rintro e w1 ⟨rfl, h1, k1⟩
  have H1 := Lib.hid h1
  have K1 := Lib.hid k1
  clear h1 k1
  go_wp2_with fail
  go_loopw [14] (fun i wr => ∃ k : Nat, k ≤ n ∧ i = .int .i64 k ∧ Hid (WrB B b (bs ++ grp n ++ flatI (xs.take k)) wr) ∧ Hid (Beside B b w wr)) (fun i _ => n - (intOf i).toNat)
  case atStart => exact ⟨0, by omega, rfl, Lib.hid (by simpa [flatI] using H1.out), K1⟩
  case round =>
    obtain ⟨k, hk, rfl, HW, HB⟩ := hrel
    by_cases hlt : k < n
    · have hkx : k < xs.length := by rw [← HNN.out]; exact hlt
      have hls : (ints xs).length = xs.length := by simp [ints]
      obtain ⟨a, rfl⟩ := HS.out.1 (by omega)
      have hc : wr.cell? (a.add k) = some (.int .i64 xs[k]) := ((HS.out.beside HB.out hB0 hB1).2 a rfl (by omega)).2 k _ (by simp [ints, hkx])
      have HX := Lib.hid (flatI_take xs k hkx)
      have hox := HOK.out xs[k] (List.getElem_mem hkx)
      have HZ : Hid ((bs ++ grp n ++ flatI (xs.take k)).length ≤ 900000000) := Lib.hid (by
        have e : flatI xs = flatI (xs.take k) ++ flatI (xs.drop k) := by rw [← flatI_append, List.take_append_drop]
        have := HFL.out
        have hq := HNN.out
        rw [e] at this
        simp only [List.length_append] at this ⊢; omega)
      generalize xs[k] = x at *
      clear hls
      go_wp2_with fail
      refine (vsigned_any B b _ x hox.1 hox.2 _ HW.out (HZW HZ.out) (Nat.le_trans hBw HB.out.size)).mono ?_
      rintro e w2 ⟨rfl, h2, k2⟩
      have H2 := Lib.hid h2
      have K2 := Lib.hid (HB.out.trans k2)
      clear h2 k2
      go_wp2_with fail
      go_roundw
      case rel =>
        refine ⟨k + 1, by omega, by go_num, Lib.hid ?_, K2⟩
        rw [HX.out]
        have := H2.out
        unfold oneI
        simpa [List.append_assoc] using this
      case measure => simp [intOf]; omega
    · obtain rfl : k = n := by omega
      have e : xs.take k = xs := by rw [HNN.out]; exact List.take_length
      rw [e] at HW
      go_wp2_with fail
      go_end0
      exact ⟨rfl, HW.out, HB.out⟩
theorem WrB.fresh (B : Nat) (w : World) : WrB B w.heap.size [] (w.alloc (.cells #[.slice none 0 0] 28)) :=
  ⟨trivial, .slice none 0 0, heap_alloc_new w _, ⟨by simp [Lib.byteCells], .inl ⟨rfl, rfl⟩⟩, by simp [Value.ownBlock]⟩
end Go.Proofs.Ytblelfonnelglaa
