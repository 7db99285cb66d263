/- The law DiskSafe: what was synced is there behind any crash. Conditions: those written at each theorem. -/
import Derived.Test.YtajcnendlcjeaaaDkW
import Derived.Deep.LoopGhost
import Derived.RegionTactic
import Derived.BigRegion
import Derived.PlainAid
import Derived.Deep.QuietTactic
import Derived.BigQuiet
namespace Go.Proofs.Ytajcnendlcjeaaa
open Go.RowKit Go.Maps Go.WideShapes Go.PlainAid
set_option linter.unusedVariables false
set_option linter.unusedSimpArgs false

theorem nameF : nameOk (⟨#[102]⟩ : ByteArray).data.toList = true := by decide
theorem gt300 {n : Nat} : ((300 : Int) < (n : Int)) ↔ 300 < n := by omega
theorem bt_getD (s : ByteArray) (k : Nat) (h : k < s.size) : bt s k = ((s.data.toList.getD k 0).toNat : Int) := by
  rw [← get_bt s k h, List.getD_eq_getElem?_getD, List.getElem?_eq_getElem (by simpa using h)]
  rfl
theorem list_size (a : ByteArray) : a.data.toList.length = a.size := rfl
/-- What the law asks of what is read. -/
structure SafeR (a b s : ByteArray) (Z : Int) : Prop where
  lo : a.size ≤ s.size
  hi : s.size ≤ (a ++ b).size
  pre : s.extract 0 a.size = a
  bt : ∀ i : Nat, a.size ≤ i → i < s.size → s.data.toList.getD i 0 = (a ++ b).data.toList.getD i 0 ∨ (s.data.toList.getD i 0 = (a ++ b).data.toList.getD i 0 ^^^ 165 ∧ ((i / 64 : Nat) : Int) = Z)
theorem safe_of (a b : ByteArray) (K Z : Int) : SafeR a b ⟨(keepB (a ++ b).data.toList a.size K Z).toArray⟩ Z := by
  have hl : (a ++ b).data.toList.length = a.size + b.size := by rw [list_size]; simp
  have hk := keptN_le (bs := (a ++ b).data.toList) (safe := a.size) (K := K) (by omega)
  have hs : (⟨(keepB (a ++ b).data.toList a.size K Z).toArray⟩ : ByteArray).size = keptN (a ++ b).data.toList a.size K := by
    show (keepB (a ++ b).data.toList a.size K Z).toArray.size = _
    rw [List.size_toArray, keepB_len]
  have hsz : (a ++ b).size = a.size + b.size := by simp
  refine ⟨by omega, by omega, ?_, ?_⟩
  · apply ByteArray.ext
    apply Array.toList_inj.1
    rw [ByteArray.data_extract, Array.toList_extract]
    show List.extract (keepB (a ++ b).data.toList a.size K Z) 0 a.size = a.data.toList
    rw [List.extract_eq_take_drop, List.drop_zero, Nat.sub_zero]
    apply List.ext_getElem
    · rw [List.length_take, keepB_len, list_size]; omega
    · intro i h1 h2
      rw [list_size] at h2
      rw [List.getElem_take]
      have h3 : i < keptN (a ++ b).data.toList a.size K := by omega
      have e : (keepB (a ++ b).data.toList a.size K Z)[i]? = some ((a ++ b).data.toList.getD i 0) := by
        unfold keepB kp
        rw [List.getElem?_map, List.getElem?_range h3, Option.map_some, if_neg (by omega)]
      rw [List.getElem_eq_iff, e]
      congr 1
      rw [ByteArray.data_append, Array.toList_append, List.getD_eq_getElem?_getD, List.getElem?_append_left (by rw [list_size]; exact h2), List.getElem?_eq_getElem (by rw [list_size]; exact h2)]
      rfl
  · intro i h1 h2
    rw [hs] at h2
    have h3 := kp_len (a ++ b).data.toList a.size Z (keptN (a ++ b).data.toList a.size K) (keptN (a ++ b).data.toList a.size K)
    have e : (⟨(keepB (a ++ b).data.toList a.size K Z).toArray⟩ : ByteArray).data.toList = keepB (a ++ b).data.toList a.size K Z := rfl
    rw [e]
    unfold keepB kp
    rw [List.getD_eq_getElem?_getD, List.getElem?_map, List.getElem?_range h2]
    simp only [Option.map_some, Option.getD_some]
    split
    · rename_i h4
      exact .inr ⟨rfl, h4.2.2⟩
    · exact .inl rfl
set_option maxRecDepth 100000 in
set_option maxHeartbeats 4000000 in
theorem diskSafe_walk (a b : ByteArray) (K Z : Int) (W : World) (ha : a.size ≤ maxLen) (hb : b.size ≤ maxLen) (hK : -9223372036854775808 ≤ K ∧ K ≤ 9223372036854775807) (hZ : -9223372036854775808 ≤ Z ∧ Z ≤ 9223372036854775807) :
    Calls Try.prog 4 #[.string a, .string b, .agg #[.int .i64 K, .int .i64 Z]] W fun e W' => e = .returned (.bool true) ∧ Below W.heap.size W W' := by
  have CA := Lib.hid awake_any
  go_enter Try.func4, Try.ntmps4
  go_upto_region 1 with fail
  obtain ⟨w1, hw1⟩ : ∃ w1, w1 = W.alloc (.cells #[.int .i64 K, .int .i64 Z] 47) := ⟨_, rfl⟩
  have HB1 : Hid (Below W.heap.size W w1) := Lib.hid (by rw [hw1]; exact (Below.refl _ _).alloc (Nat.le_refl _) _)
  have HC1 : Hid (w1.heap[W.heap.size]? = some (.cells #[.int .i64 K, .int .i64 Z] 47 (0, 0))) := Lib.hid (by rw [hw1]; exact heap_alloc_new W _)
  have HS1 : Hid (w1.heap.size = W.heap.size + 1) := Lib.hid (by rw [hw1]; exact Array.size_push _)
  have c0 := cell_blk HC1.out 0
  have c1 := cell_blk HC1.out 1
  simp only [List.getElem?_toArray] at c0 c1
  have stop : Hid (∀ w', Below w1.heap.size w1 w' → Below W.heap.size W w') := Lib.hid (fun w' h => below_mono HB1.out h (by first | exact Nat.le_refl _ | (rw [HS1.out]; omega)))
  rw [← hw1]
  clear hw1
  by_cases ga : (300 : Int) < a.size
  case pos =>
    go_wp2_with fail
    refine (CA.out _).mono ?_
    rintro e w2 ⟨rfl, hB⟩
    have HB := Lib.hid (stop.out _ hB)
    go_wp2_with fail
    go_ret
    exact ⟨rfl, HB.out⟩
  by_cases gb : (300 : Int) < b.size
  case pos =>
    go_wp2_with fail
    refine (CA.out _).mono ?_
    rintro e w2 ⟨rfl, hB⟩
    have HB := Lib.hid (stop.out _ hB)
    go_wp2_with fail
    go_ret
    exact ⟨rfl, HB.out⟩
  go_wp2_with fail
  refine (CA.out _).mono ?_
  rintro e w2 ⟨rfl, hB2⟩
  have ga' : a.size ≤ 300 := by omega
  have gb' : b.size ≤ 300 := by omega
  have CN := Lib.hid (own_new (w0 := w1) (w := w2) 1000 (by omega) (by omega) hB2)
  clear hB2
  go_wp2_with fail
  refine CN.out.mono ?_
  rintro e w3 ⟨bb, m, rfl, hO⟩
  have C2 := Lib.hid (own_append hO (by constructor <;> simp [st]) ⟨#[102]⟩ a nameF (by decide) rfl (by simp) (by omega) (by omega))
  clear CN hO
  go_wp2_with fail
  refine C2.out.mono ?_
  rintro e w4 ⟨rfl, x1, n1, b1, s1, hO⟩
  rw [put_nil] at hO
  have hg2 : SOk (st 1000 (0 + (a.size : Int)) (0 + (a.size : Int)) (0 + 1) [x1]) := by
    refine st_ok (by omega) (by omega) (by decide) (by omega) (by omega) (by decide) (by decide) (by simp) ?_ ?_ ?_ <;> intro f hf <;> simp at hf <;> subst hf
    · rw [b1, list_size]; omega
    · rw [s1]; omega
    · rw [n1]; decide
  have C3 := Lib.hid (own_sync hO hg2 ⟨#[102]⟩ nameF (by decide) (look_one n1))
  have N1 := Lib.hid (show x1.name = [102] ∧ x1.bytes = a.data.toList ∧ x1.safe = 0 from ⟨n1, b1, s1⟩)
  clear C2 hO hg2 n1 b1 s1
  go_wp2_with fail
  refine C3.out.mono ?_
  rintro e w5 ⟨rfl, hO⟩
  rw [set_one (f := x1) (x := { x1 with safe := x1.bytes.length }) rfl] at hO
  obtain ⟨x2, hx2⟩ : ∃ x2 : FileG, x2 = { x1 with safe := x1.bytes.length } := ⟨_, rfl⟩
  rw [← hx2] at hO
  have N2 : Hid (x2.name = [102] ∧ x2.bytes = a.data.toList ∧ x2.safe = a.size) := Lib.hid (by subst hx2; exact ⟨N1.out.1, N1.out.2.1, by dsimp only; rw [N1.out.2.1]; rfl⟩)
  have hg3 : SOk (st 1000 (0 + (a.size : Int)) (0 + (a.size : Int)) (0 + 1 + 1) [x2]) := by
    refine st_ok (by omega) (by omega) (by decide) (by omega) (by omega) (by decide) (by decide) (by simp) ?_ ?_ ?_ <;> intro f hf <;> simp at hf <;> subst hf
    · rw [N2.out.2.1, list_size]; omega
    · rw [N2.out.2.1, N2.out.2.2, list_size]; omega
    · rw [N2.out.1]; decide
  have C4 := Lib.hid (own_more hO hg3 ⟨#[102]⟩ b nameF (by decide) (look_one N2.out.1) (by rw [N2.out.2.1, list_size]; omega) (by omega))
  clear C3 hO hg3 hx2
  go_wp2_with fail
  refine C4.out.mono ?_
  rintro e w6 ⟨rfl, x3, n3, b3, s3, hO⟩
  rw [put_one (by rw [N2.out.1, n3])] at hO
  have N3 : Hid (x3.name = [102] ∧ x3.bytes = (a ++ b).data.toList ∧ x3.safe = a.size) := Lib.hid ⟨n3, by rw [b3, N2.out.2.1]; simp, by rw [s3, N2.out.2.2]⟩
  have hab : (a ++ b).data.toList.length = a.size + b.size := by rw [list_size]; simp
  have C5 := Lib.hid (own_crash hO (by
    refine st_ok (by omega) (by omega) (by decide) (by omega) (by omega) (by decide) (by decide) (by simp) ?_ ?_ ?_ <;> intro f hf <;> simp at hf <;> subst hf
    · rw [N3.out.2.1]; omega
    · rw [N3.out.2.1, N3.out.2.2]; omega
    · rw [N3.out.1]; decide) K Z hK)
  have hB6 := hO.bel
  have d0 : w6.cell? ⟨W.heap.size, 0, none⟩ = some (.int .i64 K) := by rw [cell_blk (by rw [hB6.block _ (by rw [HS1.out]; omega)]; exact HC1.out) 0]; rfl
  have d1 : w6.cell? ⟨W.heap.size, 1, none⟩ = some (.int .i64 Z) := by rw [cell_blk (by rw [hB6.block _ (by rw [HS1.out]; omega)]; exact HC1.out) 1]; rfl
  clear C4 hO n3 b3 s3 N1 N2 hB6 c0 c1
  go_wp2_with fail
  refine C5.out.mono ?_
  rintro e w7 ⟨rfl, fs', hk, hO⟩
  obtain ⟨x4, rfl, hk4⟩ := kept_one hk
  have C6 := read_any hO.dk ⟨#[102]⟩ (by decide)
  obtain ⟨s, hs⟩ : ∃ s : ByteArray, s = ⟨(keepB (a ++ b).data.toList a.size K Z).toArray⟩ := ⟨_, rfl⟩
  have hb4 : x4.name = [102] ∧ x4.bytes = s.data.toList := ⟨by rw [hk4.nm, N3.out.1], by rw [hk4.by_, N3.out.2.1, N3.out.2.2, hs]; rfl⟩
  have HR : Hid (SafeR a b s Z) := Lib.hid (by rw [hs]; exact safe_of a b K Z)
  have e6 : ∀ r q c : Int, readV (st r (sumB [x4] : Nat) q c [x4]) (⟨#[102]⟩ : ByteArray).data.toList = .tuple #[.string s, .int .i64 0] := by
    intro r q c
    unfold readV
    rw [if_neg (by simp [st]), show (st r (sumB [x4] : Nat) q c [x4]).fs = [x4] from rfl, look_one (n := (⟨#[102]⟩ : ByteArray).data.toList) hb4.1]
    dsimp only
    rw [hb4.2]
  rw [e6] at C6
  have H6 := Lib.hid C6
  have HB := Lib.hid (stop.out _ hO.bel)
  have f1 : w7.cell? ⟨W.heap.size, 1, none⟩ = some (.int .i64 Z) := by rw [cell_blk (by rw [hO.bel.block _ (by rw [HS1.out]; omega)]; exact HC1.out) 1]; rfl
  clear C5 hk hk4 hb4 hO C6 e6 N3 hs d0 d1
  go_wp2_with fail
  refine H6.out.mono ?_
  rintro e w8 ⟨rfl, rfl⟩
  have HLO : Hid (a.size ≤ s.size) := Lib.hid HR.out.lo
  have q1 : ¬ s.size < a.size := by have := HR.out.lo; omega
  have hsz : (a ++ b).size = a.size + b.size := by simp
  have q2 : decide ((a.size : Int) + b.size < s.size) = false := by have := HR.out.hi; simp only [decide_eq_false_iff_not]; omega
  have q3 := HR.out.pre
  have q4 := HR.out.lo
  clear HLO
  go_upto_region 8 with fail
  go_wp2_with fail
  go_loopw [10] (fun i wr => ∃ j : Nat, a.size ≤ j ∧ j ≤ s.size ∧ i = .int .i64 j ∧ Hid (Below W.heap.size W wr) ∧ Hid (wr.cell? ⟨W.heap.size, 1, none⟩ = some (.int .i64 Z))) (fun i _ => s.size - (intOf i).toNat)
  case atStart => exact ⟨a.size, by omega, q4, rfl, HB, Lib.hid f1⟩
  case round =>
    obtain ⟨j, hj1, hj2, rfl, HB, HF⟩ := hrel
    clear q1 q2 q3 q4 f1
    by_cases hlt : j < s.size
    · have hji : (j : Int) < (s.size : Int) := by omega
      have hj0 : (0 : Int) ≤ (j : Int) := by omega
      have hjab : (j : Int) < (a.size : Int) + b.size := by have := HR.out.hi; omega
      have hjab2 : j < (a ++ b).size := by have := HR.out.hi; omega
      have hBT := HR.out.bt j hj1 hlt
      have f1 := HF.out
      have hbs := get_bt s
      have hba := get_bt (a ++ b)
      have hcat : ¬ (9223372036854775807 < a.size + b.size) := by omega
      obtain ⟨c1, hc1⟩ : ∃ c1, c1 = s.data.toList.getD j 0 := ⟨_, rfl⟩
      obtain ⟨c2, hc2⟩ : ∃ c2, c2 = (a ++ b).data.toList.getD j 0 := ⟨_, rfl⟩
      have hv1 : bt s j = (c1.toNat : Int) := by rw [hc1]; exact bt_getD s j hlt
      have hv2 : bt (a ++ b) j = (c2.toNat : Int) := by rw [hc2]; exact bt_getD (a ++ b) j hjab2
      rw [← hc1, ← hc2] at hBT
      have HBT := Lib.hid hBT
      clear hBT hc1 hc2
      obtain ⟨n1, hn1⟩ : ∃ n1 : Int, n1 = (c1.toNat : Int) := ⟨_, rfl⟩
      obtain ⟨n2, hn2⟩ : ∃ n2 : Int, n2 = (c2.toNat : Int) := ⟨_, rfl⟩
      rw [← hn1] at hv1
      rw [← hn2] at hv2
      by_cases he : n1 = n2
      · subst he
        clear HBT hn1 hn2
        go_wp2_with fail
        go_region
        go_wp2_with fail
        go_roundw
        case rel => exact ⟨j + 1, by omega, by omega, by go_num, Lib.hid (below_drewN HB.out _), Lib.hid f1⟩
        case measure => simp [intOf]; omega
      · have hne : (n1 == n2) = false := by rw [beq_eq_false_iff_ne]; exact he
        have hx := HBT.out.resolve_left (fun h => he (by rw [hn1, hn2, h]))
        have hz : (j : Int) / 64 = Z := by have := hx.2; omega
        have hxx : bits .xor .u8 n2 165 = n1 := by rw [hn1, hn2, hx.1]; exact xor165 c2
        clear HBT hx hn1 hn2
        have hne2 : (n1 != n2) = true := by simpa [bne] using hne
        have hwz : IntKind.i64.wrap Z = Z := by rw [IntKind.wrap_i64]; omega
        have hzt : (j : Int).tdiv 64 = Z := by rw [Int.tdiv_eq_ediv_of_nonneg hj0]; exact hz
        go_wp2_with fail
        go_quiet (fail)
        go_wp2_with fail
        go_roundw
        case rel => exact ⟨j + 1, by omega, by omega, by go_num, Lib.hid (below_drewN HB.out _), Lib.hid f1⟩
        case measure => simp [intOf]; omega
    · obtain rfl : j = s.size := by omega
      go_wp2_with fail
      go_ret
      exact ⟨rfl, HB.out⟩
end Go.Proofs.Ytajcnendlcjeaaa
