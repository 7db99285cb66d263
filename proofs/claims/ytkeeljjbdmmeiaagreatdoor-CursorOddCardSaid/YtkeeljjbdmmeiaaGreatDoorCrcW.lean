/- The writer's Fixed4 and Bytes, the reader's Fixed4, the document's Fixed and Value, as packages over codec use them. No conditions beyond those written. -/
import Derived.Test.YtkeeljjbdmmeiaaGreatDoorHelp
import Derived.Lib.Builder
import Derived.Lib.UnsafeStr
import Derived.Lib.AppendStr
import Derived.Laws.NewBlocks
import Derived.Laws.BytesArg
import Derived.Laws.BitsAllLaws
import Derived.OwnWalk
import Derived.WalkLawsBesides
import Derived.WalkSpells
import Derived.PlainAid
import Derived.Deep.RegionLaw
import Derived.Deep.RegionWith
namespace Go.Proofs.YtkeeljjbdmmeiaaGreatDoor
open Go.RowKit
set_option linter.unusedSimpArgs false
set_option linter.unusedVariables false

theorem byteInfo : (Tryz.prog.info? 5).map (fun i => (i.zero, i.size, i.bytes)) = some (some (.int .u8 0), 1, 1) := by kernel_rfl
/-- A writer in block b (of the call's own, from B on) that holds the bytes bs. -/
def WrAt (B b : Nat) (bs : List UInt8) (w : World) : Prop :=
  B ≤ b ∧ ∃ v, w.heap[b]? = some (.cells #[v] 68 (0, 0)) ∧ w.ownsRow B 5 1 v bs.length (Lib.byteCells bs) ∧ v.ownBlock ≠ some b
theorem WrAt.lt {B b : Nat} {bs : List UInt8} {w : World} (h : WrAt B b bs w) : b < w.heap.size := by
  obtain ⟨_, v, hb, _⟩ := h
  rcases Nat.lt_or_ge b w.heap.size with h' | h'
  · exact h'
  · simp [Array.getElem?_eq_none h'] at hb
theorem WrAt.put {B b : Nat} {v v' : Value} {bs' : List UInt8} {w : World} (hB : B ≤ b) (hb : w.heap[b]? = some (.cells #[v] 68 (0, 0))) (hown : w.ownsRow B 5 1 v' bs'.length (Lib.byteCells bs')) :
    WrAt B b bs' (w.setCell ⟨b, 0, none⟩ v') := by
  have hne := Lib.ownBlock_ne hown hb (by decide)
  refine ⟨hB, v', ?_, ?_, hne⟩
  · simp [World.setCell, Array.getElem?_modify, hb]
  · exact hown.kept (row := some b) ⟨rfl, rfl, rfl, by simp [World.setCell], fun k _ hk => Below.heap_setCell _ _ _ _ (fun e => hk (by simp [e]))⟩ (Or.inr hne)
theorem WrAt.fresh (w : World) : WrAt w.heap.size w.heap.size [] (w.alloc (.cells #[.slice none 0 0] 68)) :=
  ⟨Nat.le_refl _, .slice none 0 0, heap_alloc_new w _, ⟨by simp [Lib.byteCells], .inl ⟨rfl, rfl⟩⟩, by simp [Value.ownBlock]⟩
theorem byteCells_snoc (bs : List UInt8) (c : UInt8) : Lib.byteCells (bs ++ [c]) = Lib.byteCells bs ++ [.int .u8 (c.toNat : Int)] := by simp [Lib.byteCells]
theorem u8_toNat (n : Nat) (h : n < 256) : (((UInt8.ofNat n).toNat : Nat) : Int) = (n : Int) := by
  rw [UInt8.toNat_ofNat']; omega
/-- What an append of one byte and the store behind it leave. -/
theorem wr_push {B b : Nat} {bs : List UInt8} {c : UInt8} {v v' : Value} {w1 w2 : World} {o : Obj} (hB : B ≤ b) (hlt : b < w1.heap.size) (hbk : w1.heap[b]? = some (.cells #[v] 68 (0, 0))) (hne : v.ownBlock ≠ some b)
    (hgrow : (w1.alloc o).grownBy w2 v.ownBlock) (hown' : w2.ownsRow B 5 1 v' (bs.length + 1) (Lib.byteCells bs ++ [.int .u8 (c.toNat : Int)])) :
    WrAt B b (bs ++ [c]) (w2.setCell ⟨b, 0, none⟩ v') := by
  have hb2 : w2.heap[b]? = some (.cells #[v] 68 (0, 0)) := by
    rw [hgrow.block b (by simp; omega) (fun e => hne e.symm), Below.heap_alloc w1 _ b hlt]
    exact hbk
  exact WrAt.put hB hb2 (by rw [byteCells_snoc]; simpa using hown')
/-- So many bytes of a number, the highest first. -/
def fx (n : Nat) : Nat → List UInt8
  | 0 => []
  | k + 1 => UInt8.ofNat (n / 256 ^ k % 256) :: fx n k
theorem fx_length (n k : Nat) : (fx n k).length = k := by induction k with
  | zero => rfl
  | succ k ih => simp [fx, ih]
theorem WrAt.drew {B b : Nat} {bs : List UInt8} {w : World} (h : WrAt B b bs w) : WrAt B b bs w.drew := h
/-- One byte more, as one step of a region that draws its order. -/
theorem step_push {ops : Array Oper} {o : Oper} {a : Act} {K : Act → World → Prop} {Q : Exit → Act → World → Prop} {E : Prop} {B b : Nat} {r : List UInt8} {v : Value} {w W : World} {cv : Int}
    (hg : o.guard = none) (s x : Operand) (hop : o.op = Op.call { callee := Callee.builtin Builtin.append, args := #[s, x], argTypes := #[66, 66] })
    (hB : B ≤ b) (hbk : W.heap[b]? = some (.cells #[v] 68 (0, 0))) (hown : W.ownsRow B 5 1 v r.length (Lib.byteCells r)) (hne : v.ownBlock ≠ some b)
    (hbe : Below B w W) (hBw : B ≤ w.heap.size) (hrl : r.length ≤ 1000000010) (c : Nat) (hc : c < 256) (hcv : cv = (c : Int)) (hs : a.eval s = v) (hx : a.eval x = .slice (some ⟨W.heap.size, 0, none⟩) 1 1)
    (hK : ∀ g cap w2, w2.cell? ⟨b, 0, none⟩ = some v → w2.frozen? ⟨b, 0, none⟩ = false → Hid (WrAt B b (r ++ [UInt8.ofNat c]) (w2.setCell ⟨b, 0, none⟩ (.slice (some ⟨g, 0, none⟩) (r.length + 1) cap))) →
      Hid (Below B w (w2.setCell ⟨b, 0, none⟩ (.slice (some ⟨g, 0, none⟩) (r.length + 1) cap))) → K (a.put o.dst (.slice (some ⟨g, 0, none⟩) (r.length + 1) cap)) w2) :
    if Region.wanted o (yielded ops a.tmps) = true then Oper.wp Tryz.prog o a (W.alloc (.cells #[.int .u8 cv] 5)) K Q else E := by
  obtain ⟨i0, hi, hz0, hz1, hz2⟩ := info_parts byteInfo
  have hw : Region.wanted o (yielded ops a.tmps) = true := by simp [Region.wanted, hg]
  rw [if_pos hw]
  subst hcv
  have hlt : b < W.heap.size := by
    rcases Nat.lt_or_ge b W.heap.size with h' | h'
    · exact h'
    · simp [Array.getElem?_eq_none h'] at hbk
  obtain ⟨v', w2, hr, hown', hgrow, _⟩ := run_append_own (P := Tryz.prog) (W.alloc (.cells #[.int .u8 (c : Int)] 5)) B 66 o.type 5 i0 (.int .u8 0) 1 1 Tryz.underlying66 hi hz0 hz1 hz2 rfl (by decide) v r.length (Lib.byteCells r) (hown.alloc _) ⟨W.heap.size, 0, none⟩ 1 1 [.int .u8 (c : Int)] rfl (fun j u hj => by
    match j, hj with
    | 0, hj => simp at hj; subst hj; simp [Addr.add]) (fun u hu => by simp at hu; subst hu; rfl) (by unfold maxLen; omega) (by omega) (by have := hbe.size; simp; omega)
  have HW := Lib.hid (wr_push (c := UInt8.ofNat c) hB hlt hbk hne hgrow (by rw [u8_toNat c (by omega)]; exact hown'))
  have HC := Lib.hid (((hbe.alloc (by have := hbe.size; omega) _).grown hgrow (by have := hbe.size; simp; omega) (fun k hk => (hown.lt k hk).1)).setCell (p := ⟨b, 0, none⟩) hB v')
  have hb2 : w2.heap[b]? = some (.cells #[v] 68 (0, 0)) := by
    rw [hgrow.block b (by simp; omega) (fun e => hne e.symm), Below.heap_alloc W _ b hlt]
    exact hbk
  have d0 : w2.cell? ⟨b, 0, none⟩ = some v := by rw [Lib.cell_of_heap hb2]; rfl
  have f0 : w2.frozen? ⟨b, 0, none⟩ = false := Lib.frozen_of_heap hb2 0
  obtain ⟨g, cap, rfl⟩ : ∃ g cap, v' = .slice (some ⟨g, 0, none⟩) (r.length + 1) cap := by
    rcases hown'.2 with ⟨_, h0⟩ | ⟨g, cap, cur, hv, _⟩
    · omega
    · exact ⟨g, cap, hv⟩
  unfold Oper.wp execOp
  simp only [hop, resolve, invoke, builtin, Sem.run_bind, Sem.run_pure, Result.andThen_ok, List.map_toArray, List.map_cons, List.map_nil, hs, hx, hr]
  exact hK g cap w2 d0 f0 HW HC
set_option maxRecDepth 100000 in
set_option maxHeartbeats 2000000 in
theorem wfixed_any (B b : Nat) (bs : List UInt8) (n : Nat) (hn : n ≤ 18446744073709551615) (K : Nat) (hK : K ≤ 8) (w : World) (h : WrAt B b bs w) (hlen : bs.length ≤ 1000000000) (hBw : B ≤ w.heap.size) :
    Calls Tryz.prog 55 #[.pointer (some ⟨b, 0, none⟩), .int .u64 n, .int .i64 K] w fun e w' => e = .returned (.pointer (some ⟨b, 0, none⟩)) ∧ WrAt B b (bs ++ fx n K) w' ∧ Below B w w' := by
  obtain ⟨i0, hi, hz0, hz1, hz2⟩ := info_parts byteInfo
  have hr := Below.refl B w
  go_enter Tryz.func55, Tryz.ntmps55
  go_wp2_with fail
  go_loopw [7] (fun i wr => ∃ (m : Nat) (r : List UInt8), m ≤ K ∧ i = .int .i64 ((m : Int) - 1) ∧ r ++ fx n m = bs ++ fx n K ∧ WrAt B b r wr ∧ Below B w wr) (fun i _ => (intOf i + 1).toNat)
  case atStart => exact ⟨K, bs, by omega, rfl, rfl, h, hr⟩
  case round =>
    obtain ⟨m, r, hm, rfl, hrr, hwr, hbe⟩ := hrel
    have hrl : r.length ≤ 1000000010 := by
      have e := congrArg List.length hrr
      simp [fx_length] at e; omega
    have hlt := hwr.lt
    cases m with
    | zero =>
      go_wp2_with fail
      go_ret
      simp [fx] at hrr
      exact ⟨rfl, hrr ▸ hwr, hbe⟩
    | succ m =>
      replace hwr := hwr.drew
      replace hbe := hbe.drew
      obtain ⟨hB, v, hbk, hown, hne⟩ := hwr
      have HBK := Lib.hid hbk
      have HNE := Lib.hid hne
      have HBE := Lib.hid hbe
      have c0 : wr.drew.cell? ⟨b, 0, none⟩ = some v := by rw [Lib.cell_of_heap hbk]; rfl
      have c1 : wr.cell? ⟨b, 0, none⟩ = some v := c0
      clear hbk hne hbe h hr
      have h8 : IntKind.i64.wrap (8 * (m : Int)) = 8 * (m : Int) := by rw [IntKind.wrap_i64]; omega
      have hcv : IntKind.u8.wrap ((n : Int) / 2 ^ (8 * (m : Int)).toNat) = ((n / 256 ^ m % 256 : Nat) : Int) := by
        have e1 : (8 * (m : Int)).toNat = 8 * m := by omega
        have e2 : (n : Int) / 2 ^ (8 * m) = ((n / 256 ^ m : Nat) : Int) := by
          have e3 : (256 : Nat) ^ m = 2 ^ (8 * m) := by rw [Nat.pow_mul]
          rw [e3, Int.natCast_ediv, Int.natCast_pow]; rfl
        rw [e1, e2, IntKind.wrap_u8]; omega
      go_wp2_with fail
      go_region_law (refine step_push rfl (.tmp 20) (.tmp 26) rfl hB HBK.out hown HNE.out HBE.out hBw hrl (n / 256 ^ m % 256) (by omega) (by first | rfl | exact hcv) (by simp [Act.eval, Act.put]) (by simp [Act.eval, Act.put]) ?_; intro g cap w2 d0 f0 HW HC)
      all_goals go_wp2_with fail
      all_goals
        go_roundw
        case rel => exact ⟨m, r ++ [UInt8.ofNat (n / 256 ^ m % 256)], by omega, by go_num, by rw [← hrr]; simp [fx], HW.out, HC.out⟩
        case measure => simp [intOf]
theorem wfixed4_any (B b : Nat) (bs : List UInt8) (n : Nat) (hn : n < 4294967296) (w : World) (h : WrAt B b bs w) (hlen : bs.length ≤ 1000000000) (hBw : B ≤ w.heap.size) :
    Calls Tryz.prog 126 #[.pointer (some ⟨b, 0, none⟩), .int .u32 n] w fun e w' => e = .returned (.pointer (some ⟨b, 0, none⟩)) ∧ WrAt B b (bs ++ fx n 4) w' ∧ Below B w w' := by
  have H := Lib.hid h
  clear h
  go_enter Tryz.func126, Tryz.ntmps126
  go_wp2_with fail
  refine (wfixed_any B b bs n (by omega) 4 (by omega) _ H.out hlen hBw).mono ?_
  rintro e w1 ⟨rfl, h1, h2⟩
  have H1 := Lib.hid h1
  clear h1
  go_wp2_with fail
  go_ret
  exact ⟨rfl, H1.out, h2⟩
theorem strOf_bytes (bs : List UInt8) : strOfNums (bs.map fun c => (c.toNat : Int)) = ⟨bs.toArray⟩ := by
  simp [strOfNums, Function.comp_def]
theorem wbytes_any (B b : Nat) (bs : List UInt8) (w : World) (h : WrAt B b bs w) :
    Calls Tryz.prog 35 #[.pointer (some ⟨b, 0, none⟩)] w fun e w' => e = .returned (.string ⟨bs.toArray⟩) ∧ w = w' := by
  obtain ⟨hB, v, hbk, hown, hne⟩ := h
  have c0 : w.cell? ⟨b, 0, none⟩ = some v := by rw [Lib.cell_of_heap hbk]; rfl
  have hcv : (convert 66 9 v).run Tryz.prog w = .ok (.string ⟨bs.toArray⟩) w := by
    rcases hown.2 with ⟨rfl, h0⟩ | ⟨g, cap, cur, rfl, _, hg, _⟩
    · have : bs = [] := List.eq_nil_of_length_eq_zero h0
      subst this
      exact run_convert_bytes_nil (P := Tryz.prog) w 66 5 Tryz.underlying66 Tryz.underlying5 _ _ _ Tryz.underlying9
    · rw [← strOf_bytes]
      refine run_convert_bytes_arg (P := Tryz.prog) w 66 5 Tryz.underlying66 Tryz.underlying5 g 0 bs.length cap (bs.map fun c => (c.toNat : Int)) (by simp) (fun i hi => ?_) _ Tryz.underlying9
      have ha : (⟨g, 0, none⟩ : Addr).add i = ⟨g, 0 + i, none⟩ := by unfold Addr.add; split <;> simp_all
      have := hown.cells (g := g) rfl i (.int .u8 (bs[i].toNat : Int)) (by simp [Lib.byteCells, hi])
      rw [ha] at this
      simpa [hi] using this
  clear hbk hown hne
  go_enter Tryz.func35, Tryz.ntmps35
  go_wp2_with fail
  go_ret
  exact ⟨rfl, rfl⟩
theorem one_byte (w : World) (c : Int) : (convert 66 9 (.slice (some ⟨w.heap.size, 0, none⟩) 1 1)).run Tryz.prog (w.alloc (.cells #[.int .u8 c] 5)) = .ok (.string (strOfNums [c])) (w.alloc (.cells #[.int .u8 c] 5)) :=
  run_convert_bytes_arg (P := Tryz.prog) _ 66 5 Tryz.underlying66 Tryz.underlying5 w.heap.size 0 1 1 [c] rfl (fun i hi => by
    obtain rfl : i = 0 := by omega
    simp) _ Tryz.underlying9
theorem str_size (l : List UInt8) : (⟨l.toArray⟩ : ByteArray).size = l.length := by simp [ByteArray.size]
theorem fx_cons (n j : Nat) (q : Nat) (hq : n / 256 ^ j = q) (st : ByteArray) (hs : st = ⟨(fx n j).toArray⟩) : strOfNums [(q : Int) % 256] ++ st = ⟨(fx n (j + 1)).toArray⟩ := by
  subst hs hq
  apply ByteArray.ext
  have : (((n / 256 ^ j : Nat) : Int) % 256).toNat = n / 256 ^ j % 256 := by omega
  simp only [strOfNums, List.map_cons, List.map_nil, this, fx, ByteArray.append_eq, ByteArray.append]
  simp
set_option maxRecDepth 100000 in
set_option maxHeartbeats 1000000 in
theorem rfixed_any (n : Nat) (K : Nat) (hn : n < 18446744073709551616) (hK : K ≤ 8) (w : World) :
    Calls Tryz.prog 36 #[.int .u64 n, .int .i64 K] w fun e w' => e = .returned (.string ⟨(fx n K).toArray⟩) ∧ Below w.heap.size w w' := by
  obtain ⟨B, hB0⟩ : ∃ B, B = w.heap.size := ⟨_, rfl⟩
  have hst : B ≤ w.heap.size := by omega
  rw [← hB0]
  clear hB0
  have hr := Below.refl B w
  have hcv := one_byte
  go_enter Tryz.func36, Tryz.ntmps36
  go_wp2_with fail
  go_loopw [0, 5, 6] (fun a s c wr => ∃ j : Nat, j ≤ K ∧ a = .int .u64 ((n / 256 ^ j : Nat) : Int) ∧ c = .int .i64 j ∧ s = .string ⟨(fx n j).toArray⟩ ∧ Below B w wr) (fun _ _ c _ => K - (intOf c).toNat)
  case atStart => exact ⟨0, by omega, by simp, rfl, rfl, hr⟩
  case round =>
    obtain ⟨j, hj, ha, rfl, hs, hBr⟩ := hrel
    obtain ⟨q, hq⟩ : ∃ q : Nat, n / 256 ^ j = q := ⟨_, rfl⟩
    obtain ⟨st, hs'⟩ : ∃ st : ByteArray, st = ⟨(fx n j).toArray⟩ := ⟨_, rfl⟩
    rw [hq] at ha
    rw [← hs'] at hs
    subst ha
    subst hs
    have hsz : st.size ≤ 8 := by rw [hs', str_size, fx_length]; omega
    have q1 : q ≤ n := by rw [← hq]; exact Nat.div_le_self _ _
    have HQ := Lib.hid hq
    have HS := Lib.hid hs'
    clear hq hs'
    have HBr := Lib.hid hBr
    clear hBr
    by_cases hlt : j < K
    · have hz1 : (strOfNums [(q : Int) % 256]).size ≤ 1 := by rw [strOfNums_size]; simp
      go_wp2_with fail
      go_roundw
      case rel => exact ⟨j + 1, by omega, by rw [Nat.pow_succ, ← Nat.div_div_eq_div_mul, HQ.out]; go_num, by go_num, by rw [fx_cons n j q HQ.out st HS.out], HBr.out.alloc (Nat.le_trans hst HBr.out.size) _⟩
      case measure => simp [intOf]; omega
    · obtain rfl : j = K := by omega
      go_wp2_with fail
      go_ret
      exact ⟨by rw [HS.out]; rfl, HBr.out⟩
/-- A reader in block b: what is left, and whether it is bad. -/
def RdAt (b : Nat) (s : ByteArray) (bad : Bool) (w : World) : Prop := w.heap[b]? = some (.cells #[.string s, .bool bad] 107 (0, 0))
theorem RdAt.cell0 {b : Nat} {s : ByteArray} {bad : Bool} {w : World} (h : RdAt b s bad w) : w.cell? ⟨b, 0, none⟩ = some (.string s) := by rw [Lib.cell_of_heap h]; rfl
theorem RdAt.cell1 {b : Nat} {s : ByteArray} {bad : Bool} {w : World} (h : RdAt b s bad w) : w.cell? ⟨b, 1, none⟩ = some (.bool bad) := by rw [Lib.cell_of_heap h]; rfl
theorem RdAt.frozen {b : Nat} {s : ByteArray} {bad : Bool} {w : World} (h : RdAt b s bad w) (i : Nat) : w.frozen? ⟨b, i, none⟩ = false := Lib.frozen_of_heap h i
theorem RdAt.lt {b : Nat} {s : ByteArray} {bad : Bool} {w : World} (h : RdAt b s bad w) : b < w.heap.size := by
  rcases Nat.lt_or_ge b w.heap.size with h' | h'
  · exact h'
  · unfold RdAt at h; rw [Array.getElem?_eq_none h'] at h; cases h
theorem RdAt.rest {b : Nat} {s t : ByteArray} {bad : Bool} {w : World} (h : RdAt b s bad w) : RdAt b t bad (w.setCell ⟨b, 0, none⟩ (.string t)) := by
  unfold RdAt at h ⊢; simp [World.setCell, Array.getElem?_modify, h]
theorem RdAt.both {b : Nat} {s t : ByteArray} {bad bad' : Bool} {w : World} (h : RdAt b s bad w) : RdAt b t bad' ((w.setCell ⟨b, 0, none⟩ (.string t)).setCell ⟨b, 1, none⟩ (.bool bad')) := by
  unfold RdAt at h ⊢; simp [World.setCell, Array.getElem?_modify, h]
theorem only_set {w0 w : World} {b i : Nat} {v : Value} (h : w0.grownBy w (some b)) : w0.grownBy (w.setCell ⟨b, i, none⟩ v) (some b) :=
  ⟨h.os, h.tape, h.output, by simpa [World.setCell] using h.size, fun k hk hne => by
    rw [← h.block k hk hne]; exact Below.heap_setCell w _ _ k (fun e => hne (by rw [e]))⟩
theorem only_drew {w0 w : World} {b : Nat} (h : w0.grownBy w (some b)) : w0.grownBy w.drew (some b) := ⟨h.os, h.tape, h.output, h.size, h.block⟩
theorem only_trans {w0 w1 w2 : World} {b : Nat} (h : w0.grownBy w1 (some b)) (k : w1.grownBy w2 (some b)) : w0.grownBy w2 (some b) :=
  ⟨k.os.trans h.os, k.tape.trans h.tape, k.output.trans h.output, Nat.le_trans h.size k.size, fun i hi hne => (k.block i (Nat.lt_of_lt_of_le hi h.size) hne).trans (h.block i hi hne)⟩
theorem only_below {w0 w : World} {b B : Nat} (h : w0.grownBy w (some b)) (hb : B ≤ b) (hB : B ≤ w0.heap.size) : Below B w0 w :=
  ⟨h.os, h.tape, h.output, h.size, fun i hi => h.block i (by omega) (fun e => by injection e with e; omega)⟩
theorem good_any (b : Nat) (s : ByteArray) (bad : Bool) (w : World) (h : RdAt b s bad w) :
    Calls Tryz.prog 109 #[.pointer (some ⟨b, 0, none⟩)] w fun e w' => e = .returned (.bool (!bad)) ∧ w = w' := by
  have c0 := h.cell0
  have c1 := h.cell1
  clear h
  go_enter Tryz.func109, Tryz.ntmps109
  go_wp2_with fail
  go_ret
  exact ⟨rfl, rfl⟩
theorem left_good (b : Nat) (s : ByteArray) (w : World) (h : RdAt b s false w) :
    Calls Tryz.prog 107 #[.pointer (some ⟨b, 0, none⟩)] w fun e w' => e = .returned (.int .i64 s.size) ∧ w = w' := by
  have c0 := h.cell0
  have H := Lib.hid h
  clear h
  go_enter Tryz.func107, Tryz.ntmps107
  go_wp2_with (go_at_call 109; refine (good_any b s _ _ H.out).mono ?_; rintro e w' ⟨rfl, rfl⟩)
  go_ret
  exact ⟨rfl, rfl⟩
theorem left_bad (b : Nat) (s : ByteArray) (w : World) (h : RdAt b s true w) :
    Calls Tryz.prog 107 #[.pointer (some ⟨b, 0, none⟩)] w fun e w' => e = .returned (.int .i64 0) ∧ w = w' := by
  have H := Lib.hid h
  clear h
  go_enter Tryz.func107, Tryz.ntmps107
  go_wp2_with (go_at_call 109; refine (good_any b s _ _ H.out).mono ?_; rintro e w' ⟨rfl, rfl⟩)
  go_ret
  exact ⟨rfl, rfl⟩
theorem spoil_any (b : Nat) (s : ByteArray) (bad : Bool) (w : World) (h : RdAt b s bad w) :
    Calls Tryz.prog 108 #[.pointer (some ⟨b, 0, none⟩)] w fun e w' => e = .returned (.tuple #[]) ∧ RdAt b ⟨#[]⟩ true w' ∧ w.grownBy w' (some b) := by
  have c0 := h.cell0
  have c1 := h.cell1
  have f0 := h.frozen 0
  have f1 := h.frozen 1
  have H := Lib.hid h
  have K := Lib.hid (World.grownBy.refl w (some b))
  clear h
  go_enter Tryz.func108, Tryz.ntmps108
  go_wp2_with fail
  go_end0
  exact ⟨rfl, H.out.both, only_set (only_set K.out)⟩
/-- Bytes taken from a good reader: as many as are asked for, if there are so many. -/
theorem raw_yes (b : Nat) (s : ByteArray) (n : Nat) (hn : n ≤ s.size) (hs : s.size ≤ maxLen) (w : World) (h : RdAt b s false w) :
    Calls Tryz.prog 84 #[.pointer (some ⟨b, 0, none⟩), .int .i64 n] w fun e w' => e = .returned (.string (s.extract 0 n)) ∧ RdAt b (s.extract n s.size) false w' ∧ w.grownBy w' (some b) := by
  unfold maxLen at hs
  have c0 := h.cell0
  have f0 := h.frozen 0
  have H := Lib.hid h
  have K := Lib.hid (World.grownBy.refl w (some b))
  clear h
  go_enter Tryz.func84, Tryz.ntmps84
  go_wp2_with (first | (go_at_call 109; refine (good_any b s false _ H.out).mono ?_; rintro e w' ⟨rfl, rfl⟩) | (go_at_call 107; refine (left_good b s _ H.out).mono ?_; rintro e w' ⟨rfl, rfl⟩))
  go_ret
  exact ⟨rfl, H.out.rest, only_set K.out⟩
theorem raw_no (b : Nat) (s : ByteArray) (bad : Bool) (n : Int) (hn : n < 0 ∨ (s.size : Int) < n ∨ bad = true) (hs : s.size ≤ maxLen) (w : World) (h : RdAt b s bad w) (hb0 : bad = true → s = ⟨#[]⟩) :
    Calls Tryz.prog 84 #[.pointer (some ⟨b, 0, none⟩), .int .i64 n] w fun e w' => e = .returned (.string ⟨#[]⟩) ∧ RdAt b ⟨#[]⟩ true w' ∧ w.grownBy w' (some b) := by
  unfold maxLen at hs
  have H := Lib.hid h
  have K := Lib.hid (World.grownBy.refl w (some b))
  clear h
  by_cases h0 : n < 0
  · clear hn hb0
    go_enter Tryz.func84, Tryz.ntmps84
    go_wp2_with (go_at_call 108; refine (spoil_any b s bad _ H.out).mono ?_; rintro e w1 ⟨rfl, h1, h2⟩)
    have H1 := Lib.hid h1
    have H2 := Lib.hid h2
    clear h1 h2
    go_wp2_with (go_at_call 109; refine (good_any b _ true _ H1.out).mono ?_; rintro e w' ⟨rfl, rfl⟩)
    go_ret
    exact ⟨rfl, H1.out, H2.out⟩
  · cases bad with
    | false =>
      have hn' : (s.size : Int) < n := by rcases hn with h | h | h; exact absurd h h0; exact h; cases h
      clear hn hb0
      go_enter Tryz.func84, Tryz.ntmps84
      go_wp2_with (first | (go_at_call 107; refine (left_good b s _ H.out).mono ?_; rintro e w' ⟨rfl, rfl⟩) | (go_at_call 108; refine (spoil_any b s false _ H.out).mono ?_; rintro e w1 ⟨rfl, h1, h2⟩))
      have H1 := Lib.hid h1
      have H2 := Lib.hid h2
      clear h1 h2
      go_wp2_with (go_at_call 109; refine (good_any b _ true _ H1.out).mono ?_; rintro e w' ⟨rfl, rfl⟩)
      go_ret
      exact ⟨rfl, H1.out, H2.out⟩
    | true =>
      obtain rfl := hb0 rfl
      clear hn hb0
      by_cases h2 : 0 < n
      · go_enter Tryz.func84, Tryz.ntmps84
        go_wp2_with (first | (go_at_call 107; refine (left_bad b _ _ H.out).mono ?_; rintro e w' ⟨rfl, rfl⟩) | (go_at_call 108; refine (spoil_any b _ true _ H.out).mono ?_; rintro e w1 ⟨rfl, h1, h2⟩))
        have H1 := Lib.hid h1
        have H2 := Lib.hid h2
        clear h1 h2
        go_wp2_with (go_at_call 109; refine (good_any b _ true _ H1.out).mono ?_; rintro e w' ⟨rfl, rfl⟩)
        go_ret
        exact ⟨rfl, H1.out, H2.out⟩
      · obtain rfl : n = 0 := by omega
        clear h0 h2
        go_enter Tryz.func84, Tryz.ntmps84
        go_wp2_with (first | (go_at_call 107; refine (left_bad b _ _ H.out).mono ?_; rintro e w' ⟨rfl, rfl⟩) | (go_at_call 109; refine (good_any b _ true _ H.out).mono ?_; rintro e w' ⟨rfl, rfl⟩))
        go_ret
        exact ⟨rfl, H.out, K.out⟩
theorem read_any (s : ByteArray) (w : World) : Calls Tryz.prog 37 #[.string s] w fun e w' => e = .returned (.pointer (some ⟨w.heap.size, 0, none⟩)) ∧ w.alloc (.cells #[.string s, .bool false] 107) = w' := by
  go_enter Tryz.func37, Tryz.ntmps37
  go_wp2_with fail
  go_ret
  exact ⟨rfl, rfl⟩
theorem RdAt.fresh (w : World) (s : ByteArray) : RdAt w.heap.size s false (w.alloc (.cells #[.string s, .bool false] 107)) := heap_alloc_new w _
end Go.Proofs.YtkeeljjbdmmeiaaGreatDoor
