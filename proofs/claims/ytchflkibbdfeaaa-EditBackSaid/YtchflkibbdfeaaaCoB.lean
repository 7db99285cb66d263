/- What the writer's Size, Signed, Raw, Text, Bytes of package codec do. No conditions beyond those written. -/
import Derived.Test.YtchflkibbdfeaaaCoA
import Derived.Laws.BitsAllLaws
namespace Go.Proofs.Ytchflkibbdfeaaa
open Go.RowKit
set_option linter.unusedSimpArgs false
set_option linter.unusedVariables false

def zig (n : Int) : Nat := if 0 ≤ n then (2 * n).toNat else (-2 * n - 1).toNat
theorem zig_bd (n : Int) (h : -9223372036854775808 ≤ n) (h' : n ≤ 9223372036854775807) : zig n ≤ 18446744073709551615 := by unfold zig; split <;> omega

theorem xor_ones (x : Nat) (h : x < 18446744073709551616) : x ^^^ 18446744073709551615 = 18446744073709551615 - x := by
  have e := congrArg BitVec.toNat (BitVec.xor_allOnes (x := BitVec.ofNat 64 x))
  rw [BitVec.toNat_xor, BitVec.toNat_not, BitVec.toNat_ofNat, BitVec.toNat_allOnes, Nat.mod_eq_of_lt (by omega)] at e
  exact e
theorem zig_pos (n : Int) (h0 : 0 ≤ n) (h : n ≤ 9223372036854775807) : bits .xor .u64 (IntKind.u64.wrap (wrap64 (n * 2))) (n / 9223372036854775808) = (zig n : Int) := by
  have e1 : n / 9223372036854775808 = ((0 : Nat) : Int) := by omega
  have e2 : IntKind.u64.wrap (wrap64 (n * 2)) = ((2 * n).toNat : Int) := by unfold wrap64; rw [IntKind.wrap_u64]; omega
  have e3 : zig n = (2 * n).toNat := by unfold zig; rw [if_pos h0]
  rw [e1, e2, u64_xor_nat _ _ (by omega) (by omega), e3, Nat.xor_zero]
theorem zig_neg (n : Int) (h0 : n < 0) (h : -9223372036854775808 ≤ n) : bits .xor .u64 (IntKind.u64.wrap (wrap64 (n * 2))) (IntKind.u64.wrap (n / 9223372036854775808)) = (zig n : Int) := by
  have e1 : IntKind.u64.wrap (n / 9223372036854775808) = ((18446744073709551615 : Nat) : Int) := by rw [IntKind.wrap_u64]; omega
  have e2 : IntKind.u64.wrap (wrap64 (n * 2)) = ((2 * n + 18446744073709551616).toNat : Int) := by unfold wrap64; rw [IntKind.wrap_u64]; omega
  have e3 : zig n = (-2 * n - 1).toNat := by unfold zig; rw [if_neg (by omega)]
  rw [e1, e2, u64_xor_nat _ _ (by omega) (by omega), e3, xor_ones _ (by omega)]
  omega

theorem wsize_any (B b : Nat) (bs : List UInt8) (n : Nat) (hn : n ≤ 9223372036854775807) (w : World) (h : WrAt B b bs w) (hlen : bs.length ≤ 1000000000) (hBw : B ≤ w.heap.size) :
    Calls Try.prog 23 #[.pointer (some ⟨b, 0, none⟩), .int .i64 n] w fun e w' => e = .returned (.pointer (some ⟨b, 0, none⟩)) ∧ WrAt B b (bs ++ grp n) w' ∧ Below B w w' := by
  have H := Lib.hid h
  clear h
  go_enter Try.func23, Try.ntmps23
  go_wp2_with fail
  refine (wgroups_any B b bs n (by omega) _ H.out hlen hBw).mono ?_
  rintro e w1 ⟨rfl, h1, h2⟩
  have H1 := Lib.hid h1
  clear h1
  go_wp2_with fail
  go_ret
  exact ⟨rfl, H1.out, h2⟩

theorem wsigned_any (B b : Nat) (bs : List UInt8) (n : Int) (hn : -9223372036854775808 ≤ n) (hn' : n ≤ 9223372036854775807) (w : World) (h : WrAt B b bs w) (hlen : bs.length ≤ 1000000000) (hBw : B ≤ w.heap.size) :
    Calls Try.prog 22 #[.pointer (some ⟨b, 0, none⟩), .int .i64 n] w fun e w' => e = .returned (.pointer (some ⟨b, 0, none⟩)) ∧ WrAt B b (bs ++ grp (zig n)) w' ∧ Below B w w' := by
  have H := Lib.hid h
  clear h
  by_cases h0 : 0 ≤ n
  · go_enter Try.func22, Try.ntmps22
    go_wp2_with fail
    rw [zig_pos n h0 hn']
    refine (wgroups_any B b bs (zig n) (zig_bd n hn hn') _ H.out hlen hBw).mono ?_
    rintro e w1 ⟨rfl, h1, h2⟩
    have H1 := Lib.hid h1
    clear h1
    go_wp2_with fail
    go_ret
    exact ⟨rfl, H1.out, h2⟩
  · go_enter Try.func22, Try.ntmps22
    go_wp2_with fail
    rw [zig_neg n (by omega) hn]
    refine (wgroups_any B b bs (zig n) (zig_bd n hn hn') _ H.out hlen hBw).mono ?_
    rintro e w1 ⟨rfl, h1, h2⟩
    have H1 := Lib.hid h1
    clear h1
    go_wp2_with fail
    go_ret
    exact ⟨rfl, H1.out, h2⟩

theorem wraw_any (B b : Nat) (bs : List UInt8) (s : ByteArray) (hs : s.size ≤ 1000000000) (w : World) (h : WrAt B b bs w) (hlen : bs.length ≤ 1000000000) (hBw : B ≤ w.heap.size) :
    Calls Try.prog 55 #[.pointer (some ⟨b, 0, none⟩), .string s] w fun e w' => e = .returned (.pointer (some ⟨b, 0, none⟩)) ∧ WrAt B b (bs ++ s.data.toList) w' ∧ Below B w w' := by
  obtain ⟨i0, hi, hz0, hz1, hz2⟩ := info_parts byteInfo
  have hlt := h.lt
  obtain ⟨hB, v, hbk, hown, hne⟩ := h
  have HBK := Lib.hid hbk
  have HNE := Lib.hid hne
  have c0 : w.cell? ⟨b, 0, none⟩ = some v := by rw [Lib.cell_of_heap hbk]; rfl
  clear hbk hne
  go_enter Try.func55, Try.ntmps55
  go_wp2_with (at_builtin; refine Lib.wpList_append_own_string _ rfl _ _ 57 9 rfl B 5 i0 Try.underlying57 Try.underlying9 hi hz0 hz1 hz2 _ _ _ rfl hown s rfl ?c3 ?c4 ?c5 ?_)
  case c3 => unfold maxLen; omega
  case c4 => omega
  case c5 => omega
  intro v' w2 hown' hgrow _
  have hb2 : w2.heap[b]? = some (.cells #[v] 59 (0, 0)) := by
    rw [hgrow.block b hlt (fun e => HNE.out e.symm)]
    exact HBK.out
  have d0 : w2.cell? ⟨b, 0, none⟩ = some v := by rw [Lib.cell_of_heap hb2]; rfl
  have f0 : w2.frozen? ⟨b, 0, none⟩ = false := Lib.frozen_of_heap hb2 0
  have hs2 : (bs ++ s.data.toList).length = bs.length + s.size := by simp
  have e2 : Lib.byteCells (bs ++ s.data.toList) = Lib.byteCells bs ++ Lib.strCells s := by simp [Lib.byteCells, Lib.strCells_eq]
  have HW := Lib.hid (WrAt.put hB hb2 (bs' := bs ++ s.data.toList) (by rw [hs2, e2]; exact hown'))
  have HC := Lib.hid (((Below.refl B w).grown hgrow hBw (fun k hk => (hown.lt k hk).1)).setCell (p := ⟨b, 0, none⟩) hB v')
  obtain ⟨ao, n', cap, rfl⟩ : ∃ ao n' cap, v' = .slice ao n' cap := by
    rcases hown'.2 with ⟨hv, _⟩ | ⟨g, cap, cur, hv, _⟩
    · exact ⟨_, _, _, hv⟩
    · exact ⟨_, _, _, hv⟩
  clear hown' hgrow hb2 hown hs2 e2
  go_wp2_with fail
  go_ret
  exact ⟨rfl, HW.out, HC.out⟩

theorem wtext_any (B b : Nat) (bs : List UInt8) (s : ByteArray) (hs : s.size ≤ 900000000) (w : World) (h : WrAt B b bs w) (hlen : bs.length ≤ 900000000) (hBw : B ≤ w.heap.size) :
    Calls Try.prog 24 #[.pointer (some ⟨b, 0, none⟩), .string s] w fun e w' => e = .returned (.pointer (some ⟨b, 0, none⟩)) ∧ WrAt B b (bs ++ grp s.size ++ s.data.toList) w' ∧ Below B w w' := by
  have H := Lib.hid h
  have hg := grp_len10 (n := s.size) (by omega)
  clear h
  go_enter Try.func24, Try.ntmps24
  go_wp2_with fail
  refine (wsize_any B b bs s.size (by omega) _ H.out (by omega) hBw).mono ?_
  rintro e w1 ⟨rfl, h1, h2⟩
  have H1 := Lib.hid h1
  have H2 := Lib.hid h2
  clear h1 h2
  go_wp2_with fail
  refine (wraw_any B b _ s (by omega) _ H1.out (by simp; omega) (Nat.le_trans hBw H2.out.size)).mono ?_
  rintro e w2 ⟨rfl, h3, h4⟩
  have H3 := Lib.hid h3
  have H4 := Lib.hid (H2.out.trans h4)
  clear h3 h4
  go_wp2_with fail
  go_ret
  exact ⟨rfl, H3.out, H4.out⟩

theorem strOf_bytes (bs : List UInt8) : strOfNums (bs.map fun c => (c.toNat : Int)) = ⟨bs.toArray⟩ := by
  simp [strOfNums, Function.comp_def]
theorem wbytes_any (B b : Nat) (bs : List UInt8) (w : World) (h : WrAt B b bs w) :
    Calls Try.prog 25 #[.pointer (some ⟨b, 0, none⟩)] w fun e w' => e = .returned (.string ⟨bs.toArray⟩) ∧ w = w' := by
  obtain ⟨hB, v, hbk, hown, hne⟩ := h
  have c0 : w.cell? ⟨b, 0, none⟩ = some v := by rw [Lib.cell_of_heap hbk]; rfl
  have hcv : (convert 57 9 v).run Try.prog w = .ok (.string ⟨bs.toArray⟩) w := by
    rcases hown.2 with ⟨rfl, h0⟩ | ⟨g, cap, cur, rfl, _, hg, _⟩
    · have : bs = [] := List.eq_nil_of_length_eq_zero h0
      subst this
      exact run_convert_bytes_nil (P := Try.prog) w 57 5 Try.underlying57 Try.underlying5 _ _ _ Try.underlying9
    · rw [← strOf_bytes]
      refine run_convert_bytes_arg (P := Try.prog) w 57 5 Try.underlying57 Try.underlying5 g 0 bs.length cap (bs.map fun c => (c.toNat : Int)) (by simp) (fun i hi => ?_) _ Try.underlying9
      have ha : (⟨g, 0, none⟩ : Addr).add i = ⟨g, 0 + i, none⟩ := by unfold Addr.add; split <;> simp_all
      have := hown.cells (g := g) rfl i (.int .u8 (bs[i].toNat : Int)) (by simp [Lib.byteCells, hi])
      rw [ha] at this
      simpa [hi] using this
  clear hbk hown hne
  go_enter Try.func25, Try.ntmps25
  go_wp2_with fail
  go_ret
  exact ⟨rfl, rfl⟩
end Go.Proofs.Ytchflkibbdfeaaa
