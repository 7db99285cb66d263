/- What the document's Fixed answers; pairs of texts among the arguments. Conditions: those written at each theorem. -/
import Derived.Test.YtolmbccdkfbppaaBkD
import Derived.Test.YtolmbccdkfbppaaArgs
import Derived.Deep.RegionWith
import Derived.Deep.SlicePairs
import Derived.OpenShut
namespace Go.Proofs.Ytolmbccdkfbppaa
open Go.RowKit Go.WideShapes Go.ChangeShapes Go.Deep
set_option linter.unusedVariables false
set_option linter.unusedSimpArgs false

theorem fx_cons (n j : Nat) (q : Nat) (hq : n / 256 ^ j = q) (st : ByteArray) (hs : st = ⟨(fx n j).toArray⟩) : strOfNums [(q : Int) % 256] ++ st = ⟨(fx n (j + 1)).toArray⟩ := by
  subst hs hq
  apply ByteArray.ext
  have : (((n / 256 ^ j : Nat) : Int) % 256).toNat = n / 256 ^ j % 256 := by omega
  simp only [strOfNums, List.map_cons, List.map_nil, this, fx, ByteArray.append_eq, ByteArray.append]
  simp
set_option maxRecDepth 100000 in
set_option maxHeartbeats 1000000 in
theorem rfixed_any (n : Nat) (K : Nat) (hn : n < 18446744073709551616) (hK : K ≤ 8) (w : World) :
    Calls Try.prog 32 #[.int .u64 n, .int .i64 K] w fun e w' => e = .returned (.string ⟨(fx n K).toArray⟩) ∧ Below w.heap.size w w' := by
  obtain ⟨B, hB0⟩ : ∃ B, B = w.heap.size := ⟨_, rfl⟩
  have hst : B ≤ w.heap.size := by omega
  rw [← hB0]
  clear hB0
  have hr := Below.refl B w
  have hcv := one_byte
  go_enter Try.func32, Try.ntmps32
  go_wp2_with fail
  go_loopw [0, 5, 6] (fun a s c wr => ∃ j : Nat, j ≤ K ∧ a = .int .u64 ((n / 256 ^ j : Nat) : Int) ∧ c = .int .i64 j ∧ s = .string ⟨(fx n j).toArray⟩ ∧ Below B w wr) (fun _ _ c _ => K - (intOf c).toNat)
  case atStart => exact ⟨0, by omega, by simp, rfl, rfl, hr⟩
  case round =>
    obtain ⟨j, hj, ha, rfl, hs, hBr⟩ := hrel
    obtain ⟨q, hq⟩ : ∃ q : Nat, n / 256 ^ j = q := ⟨_, rfl⟩
    obtain ⟨st, hs'⟩ : ∃ st : ByteArray, st = ⟨(fx n j).toArray⟩ := ⟨_, rfl⟩
    rw [hq] at ha
    rw [← hs'] at hs
    subst ha
    subst hs
    have hsz : st.size ≤ 8 := by rw [hs', str_size, fx_length]; omega
    have q1 : q ≤ n := by rw [← hq]; exact Nat.div_le_self _ _
    have HQ := Lib.hid hq
    have HS := Lib.hid hs'
    clear hq hs'
    have HBr := Lib.hid hBr
    clear hBr
    by_cases hlt : j < K
    · have hz1 : (strOfNums [(q : Int) % 256]).size ≤ 1 := by rw [strOfNums_size]; simp
      go_wp2_with fail
      go_roundw
      case rel => exact ⟨j + 1, by omega, by rw [Nat.pow_succ, ← Nat.div_div_eq_div_mul, HQ.out]; go_num, by go_num, by rw [fx_cons n j q HQ.out st HS.out], HBr.out.alloc (Nat.le_trans hst HBr.out.size) _⟩
      case measure => simp [intOf]; omega
    · obtain rfl : j = K := by omega
      go_wp2_with fail
      go_ret
      exact ⟨by rw [HS.out]; rfl, HBr.out⟩
/-- Pairs of texts in memory, below block B. -/
def PAt (B : Nat) (ao : Option Addr) (ps : List PB) (w : World) : Prop :=
  (0 < ps.length → ∃ a, ao = some a) ∧ ∀ a, ao = some a → 0 < ps.length → a.block < B ∧ ∀ j p, ps[j]? = some p → w.cell? (a.add (j * 2)) = some (.string p.k) ∧ w.cell? ⟨(a.add (j * 2)).block, (a.add (j * 2)).off + 1, none⟩ = some (.string p.v)
theorem add_block (a : Addr) (j : Nat) : (a.add j).block = a.block := by unfold Addr.add; split <;> rfl
theorem PAt.under {B : Nat} {ao : Option Addr} {ps : List PB} {w w' : World} (h : PAt B ao ps w) (k : Below B w w') : PAt B ao ps w' :=
  ⟨h.1, fun a e hp => ⟨(h.2 a e hp).1, fun j p hj => by
    obtain ⟨h1, h2⟩ := (h.2 a e hp).2 j p hj
    have hb := (h.2 a e hp).1
    exact ⟨(k.cell (p := a.add (j * 2)) (by rw [add_block]; exact hb)).trans h1, (k.cell (p := ⟨(a.add (j * 2)).block, (a.add (j * 2)).off + 1, none⟩) (by rw [add_block]; exact hb)).trans h2⟩⟩⟩
theorem PAt.mono {B B' : Nat} {ao : Option Addr} {ps : List PB} {w : World} (h : PAt B ao ps w) (hb : B ≤ B') : PAt B' ao ps w :=
  ⟨h.1, fun a e hp => ⟨Nat.lt_of_lt_of_le (h.2 a e hp).1 hb, (h.2 a e hp).2⟩⟩
/-- Pairs as cells. -/
def pCells (ps : List PB) : List Value := ps.flatMap fun p => [.string p.k, .string p.v]
theorem pCells_snoc (ps : List PB) (p : PB) : pCells (ps ++ [p]) = pCells ps ++ [.string p.k, .string p.v] := by simp [pCells]
theorem pCells_len (ps : List PB) : (pCells ps).length = ps.length * 2 := by
  unfold pCells
  induction ps with
  | nil => rfl
  | cons p r ih => simp only [List.flatMap_cons, List.length_append, ih, List.length_cons, List.length_nil]; omega
theorem pCells_at : ∀ (ps : List PB) (i : Nat) (h : i < ps.length), (pCells ps)[i * 2]? = some (.string ps[i].k) ∧ (pCells ps)[i * 2 + 1]? = some (.string ps[i].v)
  | [], i, h => by simp at h
  | p :: r, 0, h => by simp [pCells]
  | p :: r, i + 1, h => by
    have ih := pCells_at r i (by simpa using h)
    have e : ∀ k, (pCells (p :: r))[k + 2]? = (pCells r)[k]? := fun k => by simp [pCells]
    refine ⟨?_, ?_⟩
    · rw [show (i + 1) * 2 = i * 2 + 2 by omega, e]; exact ih.1
    · rw [show (i + 1) * 2 + 1 = (i * 2 + 1) + 2 by omega, e]; exact ih.2
/-- A row of pairs, as pairs in memory. -/
theorem PAt.of_row {B : Nat} {e : TypeId} {a : Option Addr} {n c : Nat} {ps : List PB} {w : World} (R : w.ownsRow B e 2 (.slice a n c) n (pCells ps)) (hn : n = ps.length) : PAt w.heap.size a ps w := by
  subst hn
  refine ⟨fun hp => ?_, fun b hb hp => ?_⟩
  · rcases R.2 with ⟨hv, h0⟩ | ⟨g, cap, cur, hv, _⟩
    · omega
    · injection hv with e1 _ _; exact ⟨_, e1⟩
  · obtain ⟨g, rfl⟩ : ∃ g, b = ⟨g, 0, none⟩ := by
      rcases R.2 with ⟨hv, h0⟩ | ⟨g, cap, cur, hv, _⟩
      · omega
      · injection hv with e1 _ _
        rw [hb] at e1
        injection e1 with e1
        exact ⟨g, e1⟩
    subst hb
    refine ⟨(R.lt g rfl).2, fun j p hj => ?_⟩
    obtain ⟨hjl, rfl⟩ := List.getElem?_eq_some_iff.1 hj
    have e1 : (⟨g, 0, none⟩ : Addr).add (j * 2) = ⟨g, j * 2, none⟩ := by unfold Addr.add; split <;> simp_all
    rw [e1]
    have h1 := pCells_at ps j hjl
    exact ⟨by rw [R.cellAt (j * 2) (by omega), h1.1], by rw [R.cellAt (j * 2 + 1) (by omega), h1.2]⟩
def strV : Value → ByteArray
  | .string s => s
  | _ => ⟨#[]⟩
/-- A slice of pairs among the arguments. -/
theorem pairs_open {H : Type} {enc : TypeId × Value → H} {W : World} {base : Nat} {v : Value} {d : DataW H} {ps : List MemPlace} (hval : Value.okWide Try.prog W .any base 22 v)
    (h : DataW.Trod enc Try.prog W 0 (fun _ => true) true 22 v d ps) (hlt : ∀ p ∈ ps, p.block < W.heap.size) :
    ∃ ao cap, ∃ xs : List PB, v = .slice ao xs.length cap ∧ xs.length ≤ cap ∧ cap ≤ maxLen ∧ (∀ x ∈ xs, x.k.size ≤ maxLen ∧ x.v.size ≤ maxLen) ∧ PAt W.heap.size ao xs W := by
  obtain ⟨a0, len, cap, rfl⟩ := okWide_slice Try.underlying22 hval
  obtain ⟨fuel, hf⟩ := h
  rcases open_slice_pairs Try.underlying22 Try.underlying33 (by kernel_rfl) rfl rfl (by kernel_rfl) (by kernel_rfl) hf with ⟨hcs, hx⟩ | ⟨a, len', cap', m, n, V0, V1, D0, D1, P0, P1, hcs, _, hl, hm, hz, hx, hcell⟩
  · simp [Value.cells] at hcs
    obtain ⟨rfl, rfl, rfl⟩ := hcs
    exact ⟨none, 0, [], rfl, by simp, by unfold maxLen; omega, by simp, fun hp => by simp at hp, fun a e => by cases e⟩
  · simp [Value.cells] at hcs
    obtain ⟨rfl, rfl, rfl⟩ := hcs
    simp only [if_true] at hz
    refine ⟨some a, cap, (List.range len).map fun i => ⟨strV (V0 i), strV (V1 i)⟩, by simp, by simpa using hl, hm, ?_, fun _ => ⟨a, rfl⟩, fun b e hp => ?_⟩
    · intro x hx
      obtain ⟨i, hi, rfl⟩ := List.mem_map.1 hx
      have hi := List.mem_range.1 hi
      obtain ⟨_, _, t0, t1⟩ := hcell i (by omega)
      obtain ⟨s0, e0, _, z0⟩ := DataW.trod_string Try.underlying9 t0
      obtain ⟨s1, e1, _, z1⟩ := DataW.trod_string Try.underlying9 t1
      simp at e0 e1
      rw [e0, e1]
      exact ⟨z0, z1⟩
    · cases e
      have hlen : 0 < len := by simpa using hp
      refine ⟨?_, fun j p hj => ?_⟩
      · have hc0 := (hcell 0 (by omega)).1
        have := World.block_lt_of_cell? _ _ hc0
        unfold Addr.add at this
        split at this <;> exact this
      · rw [List.getElem?_map] at hj
        obtain ⟨i, hi, rfl⟩ := Option.map_eq_some_iff.1 hj
        rw [List.getElem?_range] at hi
        · injection hi with hi
          subst hi
          have hjl : j < len := by
            rcases Nat.lt_or_ge j len with h | h
            · exact h
            · rw [List.getElem?_eq_none (by simpa using h)] at hj; simp at hj
          obtain ⟨h0, h1, t0, t1⟩ := hcell j (by omega)
          obtain ⟨s0, e0, _, z0⟩ := DataW.trod_string Try.underlying9 t0
          obtain ⟨s1, e1, _, z1⟩ := DataW.trod_string Try.underlying9 t1
          simp at e0 e1
          rw [e0] at h0
          rw [e1] at h1
          refine ⟨by rw [h0, e0]; rfl, ?_⟩
          have e2 : (⟨(a.add (j * 2)).block, (a.add (j * 2)).off + 1, none⟩ : Addr) = a.add (j * 2 + 1) := by unfold Addr.add; split <;> simp_all <;> omega
          rw [e2, h1, e1]; rfl
        · rcases Nat.lt_or_ge j len with h | h
          · exact h
          · rw [List.getElem?_eq_none (by simpa using h)] at hj; simp at hj
end Go.Proofs.Ytolmbccdkfbppaa
