/- What the writer's fixed of package codec lays; what a writer that there isn't lays. No conditions beyond those written. -/
import Derived.Test.YtolmbccdkfbppaaCoK
import Derived.Deep.RegionLaw
namespace Go.Proofs.Ytolmbccdkfbppaa
open Go.RowKit
set_option linter.unusedSimpArgs false
set_option linter.unusedVariables false

/-- So many bytes of a number, the highest first. -/
def fx (n : Nat) : Nat → List UInt8
  | 0 => []
  | k + 1 => UInt8.ofNat (n / 256 ^ k % 256) :: fx n k
theorem fx_length (n k : Nat) : (fx n k).length = k := by induction k with
  | zero => rfl
  | succ k ih => simp [fx, ih]

theorem WrAt.drew {B b : Nat} {bs : List UInt8} {w : World} (h : WrAt B b bs w) : WrAt B b bs w.drew := h

theorem wgroups_nil (n : Int) (w : World) : Calls Try.prog 41 #[.pointer none, .int .u64 n] w fun e w' => e = .returned (.pointer none) ∧ w = w' := by
  go_enter Try.func41, Try.ntmps41
  go_wp2_with fail
  go_ret
  exact ⟨rfl, rfl⟩
theorem wsize_nil (n : Int) (w : World) : Calls Try.prog 29 #[.pointer none, .int .i64 n] w fun e w' => e = .returned (.pointer none) ∧ w = w' := by
  go_enter Try.func29, Try.ntmps29
  go_wp2_with (go_at_call 41; refine (wgroups_nil _ _).mono ?_; rintro e w' ⟨rfl, rfl⟩)
  all_goals go_ret
  all_goals exact ⟨rfl, rfl⟩
theorem wfixed_nil (n k : Int) (w : World) : Calls Try.prog 43 #[.pointer none, .int .u64 n, .int .i64 k] w fun e w' => e = .returned (.pointer none) ∧ w = w' := by
  go_enter Try.func43, Try.ntmps43
  go_wp2_with fail
  go_ret
  exact ⟨rfl, rfl⟩
theorem wfixed4_nil (n : Int) (w : World) : Calls Try.prog 34 #[.pointer none, .int .u32 n] w fun e w' => e = .returned (.pointer none) ∧ w = w' := by
  go_enter Try.func34, Try.ntmps34
  go_wp2_with (go_at_call 43; refine (wfixed_nil _ _ _).mono ?_; rintro e w' ⟨rfl, rfl⟩)
  go_ret
  exact ⟨rfl, rfl⟩
theorem wbytes_nil (w : World) : Calls Try.prog 30 #[.pointer none] w fun e w' => e = .returned (.string ⟨#[]⟩) ∧ w = w' := by
  go_enter Try.func30, Try.ntmps30
  go_wp2_with fail
  go_ret
  exact ⟨rfl, rfl⟩

/-- One byte more, as one step of a region that draws its order. -/
theorem step_push {ops : Array Oper} {o : Oper} {a : Act} {K : Act → World → Prop} {Q : Exit → Act → World → Prop} {E : Prop} {B b : Nat} {r : List UInt8} {v : Value} {w W : World} {cv : Int}
    (hg : o.guard = none) (s x : Operand) (hop : o.op = Op.call { callee := Callee.builtin Builtin.append, args := #[s, x], argTypes := #[26, 26] })
    (hB : B ≤ b) (hbk : W.heap[b]? = some (.cells #[v] 61 (0, 0))) (hown : W.ownsRow B 5 1 v r.length (Lib.byteCells r)) (hne : v.ownBlock ≠ some b)
    (hbe : Below B w W) (hBw : B ≤ w.heap.size) (hrl : r.length ≤ 1000000010) (c : Nat) (hc : c < 256) (hcv : cv = (c : Int)) (hs : a.eval s = v) (hx : a.eval x = .slice (some ⟨W.heap.size, 0, none⟩) 1 1)
    (hK : ∀ g cap w2, w2.cell? ⟨b, 0, none⟩ = some v → w2.frozen? ⟨b, 0, none⟩ = false → Hid (WrAt B b (r ++ [UInt8.ofNat c]) (w2.setCell ⟨b, 0, none⟩ (.slice (some ⟨g, 0, none⟩) (r.length + 1) cap))) →
      Hid (Below B w (w2.setCell ⟨b, 0, none⟩ (.slice (some ⟨g, 0, none⟩) (r.length + 1) cap))) → K (a.put o.dst (.slice (some ⟨g, 0, none⟩) (r.length + 1) cap)) w2) :
    if Region.wanted o (yielded ops a.tmps) = true then Oper.wp Try.prog o a (W.alloc (.cells #[.int .u8 cv] 5)) K Q else E := by
  obtain ⟨i0, hi, hz0, hz1, hz2⟩ := info_parts byteInfo
  have hw : Region.wanted o (yielded ops a.tmps) = true := by simp [Region.wanted, hg]
  rw [if_pos hw]
  subst hcv
  have hlt : b < W.heap.size := by
    rcases Nat.lt_or_ge b W.heap.size with h' | h'
    · exact h'
    · simp [Array.getElem?_eq_none h'] at hbk
  obtain ⟨v', w2, hr, hown', hgrow, _⟩ := run_append_own (P := Try.prog) (W.alloc (.cells #[.int .u8 (c : Int)] 5)) B 26 o.type 5 i0 (.int .u8 0) 1 1 Try.underlying26 hi hz0 hz1 hz2 rfl (by decide) v r.length (Lib.byteCells r) (hown.alloc _) ⟨W.heap.size, 0, none⟩ 1 1 [.int .u8 (c : Int)] rfl (fun j u hj => by
    match j, hj with
    | 0, hj => simp at hj; subst hj; simp [Addr.add]) (fun u hu => by simp at hu; subst hu; rfl) (by unfold maxLen; omega) (by omega) (by have := hbe.size; simp; omega)
  have HW := Lib.hid (wr_push (c := UInt8.ofNat c) hB hlt hbk hne hgrow (by rw [u8_toNat c (by omega)]; exact hown'))
  have HC := Lib.hid (((hbe.alloc (by have := hbe.size; omega) _).grown hgrow (by have := hbe.size; simp; omega) (fun k hk => (hown.lt k hk).1)).setCell (p := ⟨b, 0, none⟩) hB v')
  have hb2 : w2.heap[b]? = some (.cells #[v] 61 (0, 0)) := by
    rw [hgrow.block b (by simp; omega) (fun e => hne e.symm), Below.heap_alloc W _ b hlt]
    exact hbk
  have d0 : w2.cell? ⟨b, 0, none⟩ = some v := by rw [Lib.cell_of_heap hb2]; rfl
  have f0 : w2.frozen? ⟨b, 0, none⟩ = false := Lib.frozen_of_heap hb2 0
  obtain ⟨g, cap, rfl⟩ : ∃ g cap, v' = .slice (some ⟨g, 0, none⟩) (r.length + 1) cap := by
    rcases hown'.2 with ⟨_, h0⟩ | ⟨g, cap, cur, hv, _⟩
    · omega
    · exact ⟨g, cap, hv⟩
  unfold Oper.wp execOp
  simp only [hop, resolve, invoke, builtin, Sem.run_bind, Sem.run_pure, Result.andThen_ok, List.map_toArray, List.map_cons, List.map_nil, hs, hx, hr]
  exact hK g cap w2 d0 f0 HW HC

set_option maxRecDepth 100000 in
set_option maxHeartbeats 2000000 in
theorem wfixed_any (B b : Nat) (bs : List UInt8) (n : Nat) (hn : n ≤ 18446744073709551615) (K : Nat) (hK : K ≤ 8) (w : World) (h : WrAt B b bs w) (hlen : bs.length ≤ 1000000000) (hBw : B ≤ w.heap.size) :
    Calls Try.prog 43 #[.pointer (some ⟨b, 0, none⟩), .int .u64 n, .int .i64 K] w fun e w' => e = .returned (.pointer (some ⟨b, 0, none⟩)) ∧ WrAt B b (bs ++ fx n K) w' ∧ Below B w w' := by
  obtain ⟨i0, hi, hz0, hz1, hz2⟩ := info_parts byteInfo
  have hr := Below.refl B w
  go_enter Try.func43, Try.ntmps43
  go_wp2_with fail
  go_loopw [7] (fun i wr => ∃ (m : Nat) (r : List UInt8), m ≤ K ∧ i = .int .i64 ((m : Int) - 1) ∧ r ++ fx n m = bs ++ fx n K ∧ WrAt B b r wr ∧ Below B w wr) (fun i _ => (intOf i + 1).toNat)
  case atStart => exact ⟨K, bs, by omega, rfl, rfl, h, hr⟩
  case round =>
    obtain ⟨m, r, hm, rfl, hrr, hwr, hbe⟩ := hrel
    have hrl : r.length ≤ 1000000010 := by
      have e := congrArg List.length hrr
      simp [fx_length] at e; omega
    have hlt := hwr.lt
    cases m with
    | zero =>
      go_wp2_with fail
      go_ret
      simp [fx] at hrr
      exact ⟨rfl, hrr ▸ hwr, hbe⟩
    | succ m =>
      replace hwr := hwr.drew
      replace hbe := hbe.drew
      obtain ⟨hB, v, hbk, hown, hne⟩ := hwr
      have HBK := Lib.hid hbk
      have HNE := Lib.hid hne
      have HBE := Lib.hid hbe
      have c0 : wr.drew.cell? ⟨b, 0, none⟩ = some v := by rw [Lib.cell_of_heap hbk]; rfl
      have c1 : wr.cell? ⟨b, 0, none⟩ = some v := c0
      clear hbk hne hbe h hr
      have h8 : IntKind.i64.wrap (8 * (m : Int)) = 8 * (m : Int) := by rw [IntKind.wrap_i64]; omega
      have hcv : IntKind.u8.wrap ((n : Int) / 2 ^ (8 * (m : Int)).toNat) = ((n / 256 ^ m % 256 : Nat) : Int) := by
        have e1 : (8 * (m : Int)).toNat = 8 * m := by omega
        have e2 : (n : Int) / 2 ^ (8 * m) = ((n / 256 ^ m : Nat) : Int) := by
          have e3 : (256 : Nat) ^ m = 2 ^ (8 * m) := by rw [Nat.pow_mul]
          rw [e3, Int.natCast_ediv, Int.natCast_pow]; rfl
        rw [e1, e2, IntKind.wrap_u8]; omega
      go_wp2_with fail
      go_region_law (refine step_push rfl (.tmp 20) (.tmp 26) rfl hB HBK.out hown HNE.out HBE.out hBw hrl (n / 256 ^ m % 256) (by omega) (by first | rfl | exact hcv) (by simp [Act.eval, Act.put]) (by simp [Act.eval, Act.put]) ?_; intro g cap w2 d0 f0 HW HC)
      all_goals go_wp2_with fail
      all_goals
        go_roundw
        case rel => exact ⟨m, r ++ [UInt8.ofNat (n / 256 ^ m % 256)], by omega, by go_num, by rw [← hrr]; simp [fx], HW.out, HC.out⟩
        case measure => simp [intOf]

theorem wfixed4_any (B b : Nat) (bs : List UInt8) (n : Nat) (hn : n < 4294967296) (w : World) (h : WrAt B b bs w) (hlen : bs.length ≤ 1000000000) (hBw : B ≤ w.heap.size) :
    Calls Try.prog 34 #[.pointer (some ⟨b, 0, none⟩), .int .u32 n] w fun e w' => e = .returned (.pointer (some ⟨b, 0, none⟩)) ∧ WrAt B b (bs ++ fx n 4) w' ∧ Below B w w' := by
  have H := Lib.hid h
  clear h
  go_enter Try.func34, Try.ntmps34
  go_wp2_with fail
  refine (wfixed_any B b bs n (by omega) 4 (by omega) _ H.out hlen hBw).mono ?_
  rintro e w1 ⟨rfl, h1, h2⟩
  have H1 := Lib.hid h1
  clear h1
  go_wp2_with fail
  go_ret
  exact ⟨rfl, H1.out, h2⟩
/-- Size of any number: one below 0 is laid as 0. -/
theorem wsize_max (B b : Nat) (bs : List UInt8) (n : Int) (hn : n ≤ 9223372036854775807) (w : World) (h : WrAt B b bs w) (hlen : bs.length ≤ 1000000000) (hBw : B ≤ w.heap.size) :
    Calls Try.prog 29 #[.pointer (some ⟨b, 0, none⟩), .int .i64 n] w fun e w' => e = .returned (.pointer (some ⟨b, 0, none⟩)) ∧ WrAt B b (bs ++ grp n.toNat) w' ∧ Below B w w' := by
  by_cases h0 : 0 ≤ n
  · obtain ⟨k, rfl⟩ := Int.eq_ofNat_of_zero_le h0
    exact wsize_any B b bs k (by omega) w h hlen hBw
  · have e : n.toNat = 0 := by omega
    rw [e]
    have H := Lib.hid h
    clear h
    go_enter Try.func29, Try.ntmps29
    go_wp2_with fail
    refine (wgroups_any B b bs 0 (by omega) _ H.out hlen hBw).mono ?_
    rintro e w1 ⟨rfl, h1, h2⟩
    have H1 := Lib.hid h1
    clear h1
    go_wp2_with fail
    go_ret
    exact ⟨rfl, H1.out, h2⟩

theorem grp_text (s : ByteArray) : (⟨(grp s.size).toArray⟩ : ByteArray) ++ s = ⟨(grp s.size ++ s.data.toList).toArray⟩ := by
  apply ByteArray.ext
  simp [ByteArray.append_eq, ByteArray.append]
end Go.Proofs.Ytolmbccdkfbppaa
