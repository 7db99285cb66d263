/- Numbers in groups of seven bits, as plain lists of bytes; the writer of package codec: what stands in memory. No conditions beyond those written. -/
import Derived.Test.YtchflkibbdfeaaaHelp
import Derived.Lib.Builder
import Derived.Lib.UnsafeStr
import Derived.Lib.AppendStr
import Derived.Laws.NewBlocks
import Derived.Laws.BytesArg
import Derived.OwnWalk
import Derived.WalkLawsBesides
import Derived.WalkSpells
import Derived.PlainAid
namespace Go.Proofs.Ytchflkibbdfeaaa
open Go.RowKit
set_option linter.unusedSimpArgs false
set_option linter.unusedVariables false

def grp (n : Nat) : List UInt8 := if n < 128 then [UInt8.ofNat n] else UInt8.ofNat (n % 128 + 128) :: grp (n / 128)
theorem grp_small {n : Nat} (h : n < 128) : grp n = [UInt8.ofNat n] := by rw [grp, if_pos h]
theorem grp_big {n : Nat} (h : ¬ n < 128) : grp n = UInt8.ofNat (n % 128 + 128) :: grp (n / 128) := by rw [grp, if_neg h]

theorem grp_len (k : Nat) : ∀ n, n < 128 ^ (k + 1) → (grp n).length ≤ k + 1 := by
  induction k with
  | zero => intro n h; rw [grp_small (by simpa using h)]; simp
  | succ k ih =>
    intro n h
    by_cases h1 : n < 128
    · rw [grp_small h1]; simp
    · rw [grp_big h1]
      have := ih (n / 128) (by rw [Nat.pow_succ] at h; omega)
      simp; omega
theorem grp_len10 {n : Nat} (h : n ≤ 18446744073709551615) : (grp n).length ≤ 10 := grp_len 9 n (by omega)
theorem grp_pos (n : Nat) : 1 ≤ (grp n).length := by
  by_cases h : n < 128
  · rw [grp_small h]; simp
  · rw [grp_big h]; simp

theorem byteInfo : (Try.prog.info? 5).map (fun i => (i.zero, i.size, i.bytes)) = some (some (.int .u8 0), 1, 1) := by kernel_rfl

theorem or128_fin : ∀ x : Fin 256, bits .or .u8 (x.val : Int) 128 = (x.val : Int) % 128 + 128 := by decide +kernel
theorem or128 (m : Nat) : bits .or .u8 ((m : Int) % 256) 128 = (m : Int) % 128 + 128 := by
  have := or128_fin ⟨m % 256, by omega⟩
  have e : ((m % 256 : Nat) : Int) = (m : Int) % 256 := by omega
  rw [show ((⟨m % 256, by omega⟩ : Fin 256).val : Int) = (m : Int) % 256 from e] at this
  rw [this]; omega

/-- A writer in block b (of the call's own, from B on) that holds the bytes bs. -/
def WrAt (B b : Nat) (bs : List UInt8) (w : World) : Prop :=
  B ≤ b ∧ ∃ v, w.heap[b]? = some (.cells #[v] 59 (0, 0)) ∧ w.ownsRow B 5 1 v bs.length (Lib.byteCells bs) ∧ v.ownBlock ≠ some b

theorem WrAt.lt {B b : Nat} {bs : List UInt8} {w : World} (h : WrAt B b bs w) : b < w.heap.size := by
  obtain ⟨_, v, hb, _⟩ := h
  rcases Nat.lt_or_ge b w.heap.size with h' | h'
  · exact h'
  · simp [Array.getElem?_eq_none h'] at hb

theorem WrAt.put {B b : Nat} {v v' : Value} {bs' : List UInt8} {w : World} (hB : B ≤ b) (hb : w.heap[b]? = some (.cells #[v] 59 (0, 0))) (hown : w.ownsRow B 5 1 v' bs'.length (Lib.byteCells bs')) :
    WrAt B b bs' (w.setCell ⟨b, 0, none⟩ v') := by
  have hne := Lib.ownBlock_ne hown hb (by decide)
  refine ⟨hB, v', ?_, ?_, hne⟩
  · simp [World.setCell, Array.getElem?_modify, hb]
  · exact hown.kept (row := some b) ⟨rfl, rfl, rfl, by simp [World.setCell], fun k _ hk => Below.heap_setCell _ _ _ _ (fun e => hk (by simp [e]))⟩ (Or.inr hne)

theorem WrAt.fresh (w : World) : WrAt w.heap.size w.heap.size [] (w.alloc (.cells #[.slice none 0 0] 59)) :=
  ⟨Nat.le_refl _, .slice none 0 0, heap_alloc_new w _, ⟨by simp [Lib.byteCells], .inl ⟨rfl, rfl⟩⟩, by simp [Value.ownBlock]⟩

theorem byteCells_snoc (bs : List UInt8) (c : UInt8) : Lib.byteCells (bs ++ [c]) = Lib.byteCells bs ++ [.int .u8 (c.toNat : Int)] := by simp [Lib.byteCells]
theorem u8_toNat (n : Nat) (h : n < 256) : (((UInt8.ofNat n).toNat : Nat) : Int) = (n : Int) := by
  rw [UInt8.toNat_ofNat']; omega

/-- What an append of one byte and the store behind it leave. -/
theorem wr_push {B b : Nat} {bs : List UInt8} {c : UInt8} {v v' : Value} {w1 w2 : World} {o : Obj} (hB : B ≤ b) (hlt : b < w1.heap.size) (hbk : w1.heap[b]? = some (.cells #[v] 59 (0, 0))) (hne : v.ownBlock ≠ some b)
    (hgrow : (w1.alloc o).grownBy w2 v.ownBlock) (hown' : w2.ownsRow B 5 1 v' (bs.length + 1) (Lib.byteCells bs ++ [.int .u8 (c.toNat : Int)])) :
    WrAt B b (bs ++ [c]) (w2.setCell ⟨b, 0, none⟩ v') := by
  have hb2 : w2.heap[b]? = some (.cells #[v] 59 (0, 0)) := by
    rw [hgrow.block b (by simp; omega) (fun e => hne e.symm), Below.heap_alloc w1 _ b hlt]
    exact hbk
  exact WrAt.put hB hb2 (by rw [byteCells_snoc]; simpa using hown')

set_option maxRecDepth 100000 in
set_option maxHeartbeats 2000000 in
theorem wgroups_any (B b : Nat) (bs : List UInt8) (n : Nat) (hn : n ≤ 18446744073709551615) (w : World) (h : WrAt B b bs w) (hlen : bs.length ≤ 1000000000) (hBw : B ≤ w.heap.size) :
    Calls Try.prog 54 #[.pointer (some ⟨b, 0, none⟩), .int .u64 n] w fun e w' => e = .returned (.pointer (some ⟨b, 0, none⟩)) ∧ WrAt B b (bs ++ grp n) w' ∧ Below B w w' := by
  obtain ⟨i0, hi, hz0, hz1, hz2⟩ := info_parts byteInfo
  have hr := Below.refl B w
  go_enter Try.func54, Try.ntmps54
  go_wp2_with fail
  go_loopw [1] (fun k wr => ∃ (m : Nat) (r : List UInt8), m ≤ 18446744073709551615 ∧ k = .int .u64 m ∧ r ++ grp m = bs ++ grp n ∧ WrAt B b r wr ∧ Below B w wr) (fun k _ => (intOf k).toNat)
  case atStart => exact ⟨n, bs, hn, rfl, rfl, h, hr⟩
  case round =>
    obtain ⟨m, r, hm, rfl, hrr, hwr, hbe⟩ := hrel
    have hrl : r.length ≤ 1000000010 := by
      have e := congrArg List.length hrr
      have e2 := grp_len10 hn
      simp at e; omega
    have hlt := hwr.lt
    obtain ⟨hB, v, hbk, hown, hne⟩ := hwr
    have HBK := Lib.hid hbk
    have HNE := Lib.hid hne
    have HBE := Lib.hid hbe
    have c0 : wr.cell? ⟨b, 0, none⟩ = some v := by rw [Lib.cell_of_heap hbk]; rfl
    clear hbk hne hbe h hr
    by_cases h128 : m < 128
    · go_wp2_with (at_builtin; refine wpList_append_own _ rfl _ _ 57 rfl B 5 i0 (.int .u8 0) 1 1 Try.underlying57 hi hz0 hz1 hz2 rfl (by decide) _ _ _ rfl (hown.alloc _) ⟨wr.heap.size, 0, none⟩ 1 1 [.int .u8 (m : Int)] rfl rfl ?c1 ?c2 ?c3 ?c4 ?c5 ?_)
      case c1 =>
        intro j u hj
        match j, hj with
        | 0, hj => simp at hj; subst hj; simp [Addr.add]
      case c2 => intro u hu; simp at hu; subst hu; rfl
      case c3 => unfold maxLen; omega
      case c4 => omega
      case c5 => have := HBE.out.size; simp; omega
      intro v' w2 hown' hgrow _
      have HW := Lib.hid (wr_push (c := UInt8.ofNat m) hB hlt HBK.out HNE.out hgrow (by rw [u8_toNat m (by omega)]; exact hown'))
      have HC := Lib.hid (((HBE.out.alloc (by have := HBE.out.size; omega) _).grown hgrow (by have := HBE.out.size; simp; omega) (fun k hk => (hown.lt k hk).1)).setCell (p := ⟨b, 0, none⟩) hB v')
      have hb2 : w2.heap[b]? = some (.cells #[v] 59 (0, 0)) := by
        rw [hgrow.block b (by simp; omega) (fun e => HNE.out e.symm), Below.heap_alloc wr _ b hlt]
        exact HBK.out
      have d0 : w2.cell? ⟨b, 0, none⟩ = some v := by rw [Lib.cell_of_heap hb2]; rfl
      have f0 : w2.frozen? ⟨b, 0, none⟩ = false := Lib.frozen_of_heap hb2 0
      obtain ⟨g, cap, rfl⟩ : ∃ g cap, v' = .slice (some ⟨g, 0, none⟩) (r.length + 1) cap := by
        rcases hown'.2 with ⟨_, h0⟩ | ⟨g, cap, cur, hv, _⟩
        · omega
        · exact ⟨g, cap, hv⟩
      clear hown' hgrow hb2 hown
      go_wp2_with fail
      go_ret
      refine ⟨rfl, ?_, HC.out⟩
      have e := hrr
      rw [grp_small h128] at e
      rw [← e]
      exact HW.out
    · have hor := or128 m
      go_wp2_with (at_builtin; refine wpList_append_own _ rfl _ _ 57 rfl B 5 i0 (.int .u8 0) 1 1 Try.underlying57 hi hz0 hz1 hz2 rfl (by decide) _ _ _ rfl (hown.alloc _) ⟨wr.heap.size, 0, none⟩ 1 1 [.int .u8 ((m : Int) % 128 + 128)] rfl rfl ?c1 ?c2 ?c3 ?c4 ?c5 ?_)
      case c1 =>
        intro j u hj
        match j, hj with
        | 0, hj => simp at hj; subst hj; simp [Addr.add]
      case c2 => intro u hu; simp at hu; subst hu; rfl
      case c3 => unfold maxLen; omega
      case c4 => omega
      case c5 => have := HBE.out.size; simp; omega
      intro v' w2 hown' hgrow _
      have HW := Lib.hid (wr_push (c := UInt8.ofNat (m % 128 + 128)) hB hlt HBK.out HNE.out hgrow (by rw [u8_toNat _ (by omega)]; simpa using hown'))
      have HC := Lib.hid (((HBE.out.alloc (by have := HBE.out.size; omega) _).grown hgrow (by have := HBE.out.size; simp; omega) (fun k hk => (hown.lt k hk).1)).setCell (p := ⟨b, 0, none⟩) hB v')
      have hb2 : w2.heap[b]? = some (.cells #[v] 59 (0, 0)) := by
        rw [hgrow.block b (by simp; omega) (fun e => HNE.out e.symm), Below.heap_alloc wr _ b hlt]
        exact HBK.out
      have d0 : w2.cell? ⟨b, 0, none⟩ = some v := by rw [Lib.cell_of_heap hb2]; rfl
      have f0 : w2.frozen? ⟨b, 0, none⟩ = false := Lib.frozen_of_heap hb2 0
      obtain ⟨g, cap, rfl⟩ : ∃ g cap, v' = .slice (some ⟨g, 0, none⟩) (r.length + 1) cap := by
        rcases hown'.2 with ⟨_, h0⟩ | ⟨g, cap, cur, hv, _⟩
        · omega
        · exact ⟨g, cap, hv⟩
      clear hown' hgrow hb2 hown
      go_wp2_with fail
      go_roundw
      case rel => exact ⟨m / 128, r ++ [UInt8.ofNat (m % 128 + 128)], by omega, by go_num, by rw [← hrr, grp_big h128]; simp, HW.out, HC.out⟩
      case measure => simp [intOf]; omega
end Go.Proofs.Ytchflkibbdfeaaa
