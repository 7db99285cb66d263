/- What the writer's fixed of package codec lays; what a writer that there isn't lays. No conditions beyond those written. -/
import Derived.Test.YtchflkibbdfeaaaCoK
import Derived.Deep.RegionLaw
namespace Go.Proofs.Ytchflkibbdfeaaa
open Go.RowKit
set_option linter.unusedSimpArgs false
set_option linter.unusedVariables false

/-- So many bytes of a number, the highest first. -/
def fx (n : Nat) : Nat → List UInt8
  | 0 => []
  | k + 1 => UInt8.ofNat (n / 256 ^ k % 256) :: fx n k
theorem fx_length (n k : Nat) : (fx n k).length = k := by induction k with
  | zero => rfl
  | succ k ih => simp [fx, ih]

theorem WrAt.drew {B b : Nat} {bs : List UInt8} {w : World} (h : WrAt B b bs w) : WrAt B b bs w.drew := h

theorem wgroups_nil (n : Int) (w : World) : Calls Try.prog 54 #[.pointer none, .int .u64 n] w fun e w' => e = .returned (.pointer none) ∧ w = w' := by
  go_enter Try.func54, Try.ntmps54
  go_wp2_with fail
  go_ret
  exact ⟨rfl, rfl⟩
theorem wsize_nil (n : Int) (w : World) : Calls Try.prog 23 #[.pointer none, .int .i64 n] w fun e w' => e = .returned (.pointer none) ∧ w = w' := by
  go_enter Try.func23, Try.ntmps23
  go_wp2_with (go_at_call 54; refine (wgroups_nil _ _).mono ?_; rintro e w' ⟨rfl, rfl⟩)
  all_goals go_ret
  all_goals exact ⟨rfl, rfl⟩
theorem wsigned_nil (n : Int) (w : World) : Calls Try.prog 22 #[.pointer none, .int .i64 n] w fun e w' => e = .returned (.pointer none) ∧ w = w' := by
  go_enter Try.func22, Try.ntmps22
  go_wp2_with (go_at_call 54; refine (wgroups_nil _ _).mono ?_; rintro e w' ⟨rfl, rfl⟩)
  all_goals go_ret
  all_goals exact ⟨rfl, rfl⟩
theorem wraw_nil (s : ByteArray) (w : World) : Calls Try.prog 55 #[.pointer none, .string s] w fun e w' => e = .returned (.pointer none) ∧ w = w' := by
  go_enter Try.func55, Try.ntmps55
  go_wp2_with fail
  go_ret
  exact ⟨rfl, rfl⟩
theorem wtext_nil (s : ByteArray) (hs : s.size ≤ maxLen) (w : World) : Calls Try.prog 24 #[.pointer none, .string s] w fun e w' => e = .returned (.pointer none) ∧ w = w' := by
  go_enter Try.func24, Try.ntmps24
  go_wp2_with (first | (go_at_call 23; refine (wsize_nil _ _).mono ?_; rintro e w' ⟨rfl, rfl⟩) | (go_at_call 55; refine (wraw_nil _ _).mono ?_; rintro e w' ⟨rfl, rfl⟩))
  go_ret
  exact ⟨rfl, rfl⟩
theorem wbytes_nil (w : World) : Calls Try.prog 25 #[.pointer none] w fun e w' => e = .returned (.string ⟨#[]⟩) ∧ w = w' := by
  go_enter Try.func25, Try.ntmps25
  go_wp2_with fail
  go_ret
  exact ⟨rfl, rfl⟩

/-- One byte more, as one step of a region that draws its order. -/
theorem step_push {ops : Array Oper} {o : Oper} {a : Act} {K : Act → World → Prop} {Q : Exit → Act → World → Prop} {E : Prop} {B b : Nat} {r : List UInt8} {v : Value} {w W : World} {cv : Int}
    (hg : o.guard = none) (s x : Operand) (hop : o.op = Op.call { callee := Callee.builtin Builtin.append, args := #[s, x], argTypes := #[57, 57] })
    (hB : B ≤ b) (hbk : W.heap[b]? = some (.cells #[v] 59 (0, 0))) (hown : W.ownsRow B 5 1 v r.length (Lib.byteCells r)) (hne : v.ownBlock ≠ some b)
    (hbe : Below B w W) (hBw : B ≤ w.heap.size) (hrl : r.length ≤ 1000000010) (c : Nat) (hc : c < 256) (hcv : cv = (c : Int)) (hs : a.eval s = v) (hx : a.eval x = .slice (some ⟨W.heap.size, 0, none⟩) 1 1)
    (hK : ∀ g cap w2, w2.cell? ⟨b, 0, none⟩ = some v → w2.frozen? ⟨b, 0, none⟩ = false → Hid (WrAt B b (r ++ [UInt8.ofNat c]) (w2.setCell ⟨b, 0, none⟩ (.slice (some ⟨g, 0, none⟩) (r.length + 1) cap))) →
      Hid (Below B w (w2.setCell ⟨b, 0, none⟩ (.slice (some ⟨g, 0, none⟩) (r.length + 1) cap))) → K (a.put o.dst (.slice (some ⟨g, 0, none⟩) (r.length + 1) cap)) w2) :
    if Region.wanted o (yielded ops a.tmps) = true then Oper.wp Try.prog o a (W.alloc (.cells #[.int .u8 cv] 5)) K Q else E := by
  obtain ⟨i0, hi, hz0, hz1, hz2⟩ := info_parts byteInfo
  have hw : Region.wanted o (yielded ops a.tmps) = true := by simp [Region.wanted, hg]
  rw [if_pos hw]
  subst hcv
  have hlt : b < W.heap.size := by
    rcases Nat.lt_or_ge b W.heap.size with h' | h'
    · exact h'
    · simp [Array.getElem?_eq_none h'] at hbk
  obtain ⟨v', w2, hr, hown', hgrow, _⟩ := run_append_own (P := Try.prog) (W.alloc (.cells #[.int .u8 (c : Int)] 5)) B 57 o.type 5 i0 (.int .u8 0) 1 1 Try.underlying57 hi hz0 hz1 hz2 rfl (by decide) v r.length (Lib.byteCells r) (hown.alloc _) ⟨W.heap.size, 0, none⟩ 1 1 [.int .u8 (c : Int)] rfl (fun j u hj => by
    match j, hj with
    | 0, hj => simp at hj; subst hj; simp [Addr.add]) (fun u hu => by simp at hu; subst hu; rfl) (by unfold maxLen; omega) (by omega) (by have := hbe.size; simp; omega)
  have HW := Lib.hid (wr_push (c := UInt8.ofNat c) hB hlt hbk hne hgrow (by rw [u8_toNat c (by omega)]; exact hown'))
  have HC := Lib.hid (((hbe.alloc (by have := hbe.size; omega) _).grown hgrow (by have := hbe.size; simp; omega) (fun k hk => (hown.lt k hk).1)).setCell (p := ⟨b, 0, none⟩) hB v')
  have hb2 : w2.heap[b]? = some (.cells #[v] 59 (0, 0)) := by
    rw [hgrow.block b (by simp; omega) (fun e => hne e.symm), Below.heap_alloc W _ b hlt]
    exact hbk
  have d0 : w2.cell? ⟨b, 0, none⟩ = some v := by rw [Lib.cell_of_heap hb2]; rfl
  have f0 : w2.frozen? ⟨b, 0, none⟩ = false := Lib.frozen_of_heap hb2 0
  obtain ⟨g, cap, rfl⟩ : ∃ g cap, v' = .slice (some ⟨g, 0, none⟩) (r.length + 1) cap := by
    rcases hown'.2 with ⟨_, h0⟩ | ⟨g, cap, cur, hv, _⟩
    · omega
    · exact ⟨g, cap, hv⟩
  unfold Oper.wp execOp
  simp only [hop, resolve, invoke, builtin, Sem.run_bind, Sem.run_pure, Result.andThen_ok, List.map_toArray, List.map_cons, List.map_nil, hs, hx, hr]
  exact hK g cap w2 d0 f0 HW HC

/-- Size of any number: one below 0 is laid as 0. -/
theorem wsize_max (B b : Nat) (bs : List UInt8) (n : Int) (hn : n ≤ 9223372036854775807) (w : World) (h : WrAt B b bs w) (hlen : bs.length ≤ 1000000000) (hBw : B ≤ w.heap.size) :
    Calls Try.prog 23 #[.pointer (some ⟨b, 0, none⟩), .int .i64 n] w fun e w' => e = .returned (.pointer (some ⟨b, 0, none⟩)) ∧ WrAt B b (bs ++ grp n.toNat) w' ∧ Below B w w' := by
  by_cases h0 : 0 ≤ n
  · obtain ⟨k, rfl⟩ := Int.eq_ofNat_of_zero_le h0
    exact wsize_any B b bs k (by omega) w h hlen hBw
  · have e : n.toNat = 0 := by omega
    rw [e]
    have H := Lib.hid h
    clear h
    go_enter Try.func23, Try.ntmps23
    go_wp2_with fail
    refine (wgroups_any B b bs 0 (by omega) _ H.out hlen hBw).mono ?_
    rintro e w1 ⟨rfl, h1, h2⟩
    have H1 := Lib.hid h1
    clear h1
    go_wp2_with fail
    go_ret
    exact ⟨rfl, H1.out, h2⟩

/-- The document's Signed, Text, Fixed. -/
theorem rsig_any (n : Int) (hn : -9223372036854775808 ≤ n) (hn' : n ≤ 9223372036854775807) (w : World) :
    Calls Try.prog 27 #[.int .i64 n] w fun e w' => e = .returned (.string ⟨(grp (zig n)).toArray⟩) ∧ Below w.heap.size w w' := by
  have hz := zig_bd n hn hn'
  have HG := Lib.hid (groups_any (zig n) (by omega))
  by_cases h0 : 0 ≤ n
  · have e : 2 * n = (zig n : Int) := by unfold zig; rw [if_pos h0]; omega
    have e2 : IntKind.u64.wrap (2 * n) = (zig n : Int) := by rw [e, IntKind.wrap_u64]; omega
    go_enter Try.func27, Try.ntmps27
    go_wp2_with (go_at_call 56; first | rw [e] | rw [e2] | skip; refine (HG.out _).mono ?_; rintro e w1 ⟨rfl, h1⟩)
    go_ret
    exact ⟨rfl, h1⟩
  · have e : 2 * -(n + 1) + 1 = (zig n : Int) := by unfold zig; rw [if_neg h0]; omega
    go_enter Try.func27, Try.ntmps27
    go_wp2_with (go_at_call 56; first | rw [e] | skip; refine (HG.out _).mono ?_; rintro e w1 ⟨rfl, h1⟩)
    go_ret
    exact ⟨rfl, h1⟩
theorem grp_text (s : ByteArray) : (⟨(grp s.size).toArray⟩ : ByteArray) ++ s = ⟨(grp s.size ++ s.data.toList).toArray⟩ := by
  apply ByteArray.ext
  simp [ByteArray.append_eq, ByteArray.append]
theorem rtext_any (s : ByteArray) (hs : s.size ≤ 1000000) (w : World) :
    Calls Try.prog 29 #[.string s] w fun e w' => e = .returned (.string ⟨(grp s.size ++ s.data.toList).toArray⟩) ∧ Below w.heap.size w w' := by
  have HE := Lib.hid (grp_text s)
  have h10 := grp_len10 (n := s.size) (by omega)
  obtain ⟨st, hst⟩ : ∃ st : ByteArray, st = ⟨(grp s.size).toArray⟩ := ⟨_, rfl⟩
  have hG : ∀ w : World, Calls Try.prog 56 #[.int .u64 s.size] w fun e w' => e = .returned (.string st) ∧ Below w.heap.size w w' := by
    rw [hst]; exact groups_any _ (by omega)
  have hz : st.size ≤ 10 := by rw [hst, str_size]; exact h10
  have HS := Lib.hid hst
  have HG := Lib.hid hG
  clear hst hG h10
  go_enter Try.func29, Try.ntmps29
  go_wp2_with (go_at_call 56; refine (HG.out _).mono ?_; rintro e w1 ⟨rfl, h1⟩)
  go_ret
  exact ⟨by rw [← HE.out, ← HS.out]; rfl, h1⟩
end Go.Proofs.Ytchflkibbdfeaaa
