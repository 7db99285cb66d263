/- What the Go function keep of package disk does to a file. Conditions: those written at each theorem. -/
import Derived.Test.YtajcnendlcjeaaaDkF
import Derived.Laws.OwnMore
import Derived.StillTailTactics
import Derived.Deep.LoopGhost
import Derived.Deep.CutBlock
import Derived.RegionTactic
import Derived.BigRegion
namespace Go.Proofs.Ytajcnendlcjeaaa
open Go.RowKit Go.Maps Go.WideShapes
set_option linter.unusedVariables false
set_option linter.unusedSimpArgs false

/-- A file's first T bytes, those of one sector turned from the safe ones to a place. -/
def kp (bs : List UInt8) (safe : Nat) (Z : Int) (T at_ : Nat) : List UInt8 := (List.range T).map fun i => if safe ≤ i ∧ i < at_ ∧ ((i / 64 : Nat) : Int) = Z then bs.getD i 0 ^^^ 165 else bs.getD i 0
def keptN (bs : List UInt8) (safe : Nat) (K : Int) : Nat := safe + (min (max K 0) ((bs.length : Int) - safe)).toNat
/-- What is kept of a file. -/
def keepB (bs : List UInt8) (safe : Nat) (K Z : Int) : List UInt8 := kp bs safe Z (keptN bs safe K) (keptN bs safe K)
theorem kp_len (bs : List UInt8) (safe : Nat) (Z : Int) (T a : Nat) : (kp bs safe Z T a).length = T := by simp [kp]
theorem kp_start (bs : List UInt8) (safe : Nat) (Z : Int) (T : Nat) (hT : T ≤ bs.length) : kp bs safe Z T safe = bs.take T := by
  apply List.ext_getElem
  · simp [kp]; omega
  · intro i h1 h2
    simp only [kp, List.getElem_map, List.getElem_range, List.getElem_take]
    have hi : i < bs.length := by simp at h2; omega
    rw [if_neg (by omega)]
    simp [List.getD_eq_getElem?_getD, hi]
theorem kp_skip (bs : List UInt8) (safe : Nat) (Z : Int) (T a : Nat) (h : ((a / 64 : Nat) : Int) ≠ Z) : kp bs safe Z T (a + 1) = kp bs safe Z T a := by
  unfold kp
  refine List.map_congr_left fun i _ => ?_
  by_cases hi : i = a
  · subst hi; rw [if_neg (by omega), if_neg (by omega)]
  · have : (safe ≤ i ∧ i < a + 1 ∧ ((i / 64 : Nat) : Int) = Z) ↔ (safe ≤ i ∧ i < a ∧ ((i / 64 : Nat) : Int) = Z) := by omega
    simp only [this]
theorem kp_turn (bs : List UInt8) (safe : Nat) (Z : Int) (T a : Nat) (hs : safe ≤ a) (ha : a < T) (h : ((a / 64 : Nat) : Int) = Z) : (kp bs safe Z T a).set a (bs.getD a 0 ^^^ 165) = kp bs safe Z T (a + 1) := by
  apply List.ext_getElem
  · simp [kp]
  · intro i h1 h2
    rw [List.getElem_set]
    simp only [kp, List.getElem_map, List.getElem_range]
    by_cases hi : a = i
    · subst hi; rw [if_pos rfl, if_pos (by omega)]
    · rw [if_neg hi]
      have : (safe ≤ i ∧ i < a + 1 ∧ ((i / 64 : Nat) : Int) = Z) ↔ (safe ≤ i ∧ i < a ∧ ((i / 64 : Nat) : Int) = Z) := by omega
      simp only [this]
theorem kp_at (bs : List UInt8) (safe : Nat) (Z : Int) (T a : Nat) (ha : a < T) : (kp bs safe Z T a)[a]? = some (bs.getD a 0) := by
  simp only [kp, List.getElem?_map, List.getElem?_range ha, Option.map_some]
  rw [if_neg (by omega)]
/-- A row's first cells. -/
theorem row_take {B n k : Nat} {e : TypeId} {a : Option Addr} {c : Nat} {xs : List Value} {w : World} (h : w.ownsRow B e 1 (.slice a n c) n xs) (hk : k ≤ n) : w.ownsRow B e 1 (.slice a k c) k (xs.take k) := by
  have h1 := h.1
  refine ⟨by rw [List.length_take]; simp at h1 ⊢; omega, ?_⟩
  rcases h.2 with ⟨hv, hn⟩ | ⟨g, cap, cur, hv, hb, hg, h2, h3, h4, h5⟩
  · injection hv with e1 e2 e3
    subst e1 e3
    exact .inl ⟨by rw [show k = 0 by omega], by omega⟩
  · injection hv with e1 e2 e3
    subst e1 e3
    refine .inr ⟨g, c, cur, rfl, hb, hg, by omega, h3, h4, ?_⟩
    rw [← h5, List.take_take]
    congr 1
    simp; omega

/-- What is left of a file. -/
def KeepP (B : Nat) (f : FileG) (K Z : Int) (w : World) (e : Ending) (w' : World) : Prop :=
  e = .returned (.tuple #[]) ∧ ∃ v', v'.ownBlock = f.v.ownBlock ∧ FileAt B ⟨f.name, f.blk, v', keepB f.bytes f.safe K Z, keptN f.bytes f.safe K⟩ w' ∧ Only f.own w w'
theorem xor165_fin : ∀ x : Fin 256, bits .xor .u8 ((x.val : Nat) : Int) 165 = (((UInt8.ofNat x.val) ^^^ 165).toNat : Int) := by decide +kernel
theorem xor165 (c : UInt8) : bits .xor .u8 (c.toNat : Int) 165 = ((c ^^^ 165).toNat : Int) := by
  have h := xor165_fin ⟨c.toNat, UInt8.toNat_lt c⟩
  simpa using h
theorem max_run (a b c : Int) (h : max a b = c) (ts : Array TypeId) (t : TypeId) (w : World) : (Builtin.max_ ts t #[.int .i64 a, .int .i64 b]).run Try.prog w = .ok (.int .i64 c) w := by
  subst h; simp [Builtin.max_, Builtin.max2]; (repeat' split) <;> omega
theorem min_run (a b c : Int) (h : min a b = c) (ts : Array TypeId) (t : TypeId) (w : World) : (Builtin.min_ ts t #[.int .i64 a, .int .i64 b]).run Try.prog w = .ok (.int .i64 c) w := by
  subst h; simp [Builtin.min_, Builtin.min2]; (repeat' split) <;> omega
set_option maxRecDepth 100000 in
set_option maxHeartbeats 2000000 in
theorem keep_any {B : Nat} {f : FileG} {w : World} (h : FileAt B f w) (hnd : f.own.Nodup) (hs : f.safe ≤ f.bytes.length) (hl : f.bytes.length ≤ 1048576) (K Z : Int) (hK : -9223372036854775808 ≤ K ∧ K ≤ 9223372036854775807) :
    Calls Try.prog 38 #[.pointer (some ⟨f.blk, 0, none⟩), .agg #[.int .i64 K, .int .i64 Z]] w (KeepP B f K Z w) := by
  obtain ⟨L, hL⟩ : ∃ L, L = f.bytes.length := ⟨_, rfl⟩
  obtain ⟨D, hD⟩ : ∃ D, D = f.safe := ⟨_, rfl⟩
  obtain ⟨T, hT⟩ : ∃ T, T = keptN f.bytes f.safe K := ⟨_, rfl⟩
  have hT1 : D ≤ T ∧ T ≤ L ∧ (min (max K 0) ((L : Int) - D)) = (T : Int) - D := by rw [hT, hL, hD]; unfold keptN; omega
  obtain ⟨q, hq⟩ : ∃ q : Int, min (max K 0) ((L : Int) - D) = q := ⟨_, rfl⟩
  obtain ⟨km, hkm⟩ : ∃ km : Int, max K 0 = km := ⟨_, rfl⟩
  obtain ⟨va, vc, hv⟩ := row_form h.row
  have hrow := h.row
  rw [hv, ← hL] at hrow
  have hTc : T ≤ vc := by
    rcases hrow.2 with ⟨hv0, hn⟩ | ⟨g, cap, cur, hv0, hb, hg, h2, h3, h4, h5⟩
    · omega
    · injection hv0 with _ _ e3; omega
  have hmax := max_run K 0 km hkm
  have hmin := min_run km ((L : Int) - D) q (by rw [← hkm]; exact hq)
  have hq1 : q = (T : Int) - D := by omega
  have hw1 : IntKind.i64.wrap ((L : Int) - D) = (L : Int) - D := by rw [IntKind.wrap_i64]; omega
  -- memory behind the box
  obtain ⟨w0, hw0⟩ : ∃ w0, w0 = w.alloc (.cells #[.int .i64 K, .int .i64 Z] 47) := ⟨_, rfl⟩
  have hk0 : ∀ k, k < w.heap.size → w0.heap[k]? = w.heap[k]? := fun k hk => by rw [hw0]; exact Below.heap_alloc _ _ _ hk
  have hb0 : w0.heap[w.heap.size]? = some (.cells #[.int .i64 K, .int .i64 Z] 47 (0, 0)) := by rw [hw0]; exact heap_alloc_new _ _
  have hfl0 : FileAt B f w0 := h.stay fun k hk => hk0 k (h.lt k hk)
  have on0 : Only f.own w w0 := by rw [hw0]; exact (Only.refl _ _).alloc _
  have hltf := h.lt
  have k0 := cell_blk hb0 0
  have k1 := cell_blk hb0 1
  have c0 := cell_blk hfl0.hd 0
  have c1 := cell_blk hfl0.hd 1
  have z0 := free_blk hfl0.hd 0
  have z1 := free_blk hfl0.hd 1
  simp only [List.getElem?_toArray] at k0 k1 c0 c1
  have c0' : w0.cell? ⟨f.blk, 0, none⟩ = some (.slice va L vc) := by rw [c0, hv, hL]; rfl
  have c1' : w0.cell? ⟨f.blk, 1, none⟩ = some (.int .i64 D) := by rw [c1, hD]; rfl
  have HW0 := Lib.hid hw0
  have HV := Lib.hid hv
  have HL := Lib.hid hL
  have HDD := Lib.hid hD
  have HT := Lib.hid hT
  have HT1 := Lib.hid hT1
  have HF0 := Lib.hid hfl0
  have HON := Lib.hid on0
  have H0 := Lib.hid h
  have HND := Lib.hid hnd
  have hL2 : (L : Int) ≤ 1048576 := by omega
  have hT2 : (T : Int) ≤ (L : Int) := by omega
  have hT3 : (D : Int) ≤ (T : Int) := by omega
  have HQ := Lib.hid hq1
  have hs1 : IntKind.i64.wrap ((D : Int) + q) = (D : Int) + q := by rw [IntKind.wrap_i64]; omega
  have hs2 : (D : Int) + q = (T : Int) := by omega
  have hTvc : (T : Int) ≤ (vc : Int) := by omega
  clear hw0 hv hL hD hT hT1 hfl0 on0 h hnd hrow hq hkm hk0 hb0 c0 c1 hq1
  go_enter Try.func38, Try.ntmps38
  go_upto_region 1 with fail
  refine wp_letter (fun W => w0 = W) HW0.out ?_
  rintro _ rfl
  go_wp2_with fail
  go_quiet (fail)
  go_wp2_with fail
  go_region
  obtain ⟨w1, hw1⟩ : ∃ w1, w1 = (w0.drewN (nq + 1)).setCell ⟨f.blk, 0, none⟩ (.slice va T vc) := ⟨_, rfl⟩
  rw [← hw1]
  have hd1 : Hid (w1.heap[f.blk]? = some (.cells #[.slice va T vc, .int .i64 D] 70 (0, 0))) := Lib.hid (by
    have := HF0.out.hd
    rw [HV.out, ← HL.out, ← HDD.out] at this
    rw [hw1, heap_setCell_same (w0.drewN (nq + 1)) f.blk 0 _ _ _ this]
    rfl)
  have hk1 : ∀ k, k ≠ f.blk → w1.heap[k]? = w0.heap[k]? := fun k hk => by rw [hw1, heap_setCell_other _ ⟨f.blk, 0, none⟩ _ _ hk]; rfl
  have hvo : ∀ g, f.v.ownBlock = some g → g ≠ f.blk := fun g hg e => by
    have := HND.out
    unfold FileG.own at this
    rw [hg] at this
    simp at this
    exact this e.symm
  have hrow1 : Hid (w1.ownsRow B 5 1 (.slice va T vc) T (u8s (kp f.bytes D Z T D))) := Lib.hid (by
    have h1 := HF0.out.row
    rw [HV.out, ← HL.out] at h1
    have h2 := row_take h1 (show T ≤ L by omega)
    rw [kp_start f.bytes D Z T (by rw [← HL.out]; omega)]
    have e : (u8s f.bytes).take T = u8s (f.bytes.take T) := List.map_take.symm
    rw [e] at h2
    exact row_stay h2 fun g hg => hk1 g (hvo g (by rw [HV.out]; cases va <;> exact hg)))
  have hon1 : Hid (Only f.own w w1) := Lib.hid (by rw [hw1]; exact (HON.out.drewN _).set (a := ⟨f.blk, 0, none⟩) (.inl (by simp [FileG.own])) _)
  have hb1 : Hid (w1.heap[w.heap.size]? = some (.cells #[.int .i64 K, .int .i64 Z] 47 (0, 0))) := Lib.hid (by
    rw [hk1 _ (by have := hltf f.blk (by simp [FileG.own]); omega), HW0.out]
    exact heap_alloc_new _ _)
  have hvo2 := Lib.hid hvo
  have d1 := cell_blk hd1.out 1
  simp only [List.getElem?_toArray] at d1
  have d1' : w1.cell? ⟨f.blk, 1, none⟩ = some (.int .i64 D) := d1
  clear hw1 hk1 hvo k0 k1 c0' c1' z0 z1 hmax hmin hs1 hs2 d1
  go_wp2_with fail
  go_loopw [5] (fun i wr => ∃ j : Nat, D ≤ j ∧ j ≤ T ∧ i = .int .i64 j ∧ Hid (wr.heap[f.blk]? = some (.cells #[.slice va T vc, .int .i64 D] 70 (0, 0))) ∧ Hid (wr.ownsRow B 5 1 (.slice va T vc) T (u8s (kp f.bytes D Z T j))) ∧ Hid (Only f.own w wr) ∧ Hid (wr.heap[w.heap.size]? = some (.cells #[.int .i64 K, .int .i64 Z] 47 (0, 0)))) (fun i _ => T - (intOf i).toNat)
  case atStart => exact ⟨D, by omega, by omega, rfl, hd1, hrow1, hon1, hb1⟩
  case round =>
    obtain ⟨j, hj1, hj2, rfl, HD1, HR, HO, HBX⟩ := hrel
    clear hd1 hrow1 hon1 hb1 d1'
    have e0 := cell_blk HD1.out 0
    have y0 := free_blk HD1.out 0
    have y1 := free_blk HD1.out 1
    have kz := cell_blk HBX.out 1
    simp only [List.getElem?_toArray] at e0 kz
    have e0' : wr.cell? ⟨f.blk, 0, none⟩ = some (.slice va T vc) := e0
    have kz' : wr.cell? ⟨w.heap.size, 1, none⟩ = some (.int .i64 Z) := kz
    by_cases hlt : j < T
    · have hji : (j : Int) < (T : Int) := by omega
      have hj0 : (0 : Int) ≤ (j : Int) := by omega
      obtain ⟨g, hg⟩ : ∃ g, va = some ⟨g, 0, none⟩ := by
        rcases HR.out.2 with ⟨hv0, hn⟩ | ⟨g, cap, cur, hv0, _⟩
        · omega
        · injection hv0 with e1 _ _; exact ⟨g, e1⟩
      subst hg
      obtain ⟨c, hc⟩ : ∃ c, c = f.bytes.getD j 0 := ⟨_, rfl⟩
      have hcell : wr.cell? ⟨g, j, none⟩ = some (.int .u8 c.toNat) := by
        rw [HR.out.cellAt j (by omega), hc]
        simp only [u8s, List.getElem?_map, kp_at _ _ _ _ _ hlt, Option.map_some]
      have hfz := HR.out.frozenAt j
      have HC := Lib.hid hc
      clear hc e0 kz
      by_cases hz : (j : Int) / 64 = Z
      · have HX := xor165 c
        have hgf : g ≠ f.blk := hvo2.out g (by rw [HV.out]; rfl)
        have hgl : g < w.heap.size := hltf g (by simp [FileG.own, HV.out, Value.ownBlock])
        have hst := (HR.out.stored j (.int .u8 ((c ^^^ 165).toNat : Int))).1
        have HS : Hid ((wr.setCell ⟨g, j, none⟩ (.int .u8 ((c ^^^ 165).toNat : Int))).ownsRow B 5 1 (.slice (some ⟨g, 0, none⟩) T vc) T (u8s (kp f.bytes D Z T (j + 1)))) := Lib.hid (by
          rw [← kp_turn f.bytes D Z T j hj1 hlt (by omega), ← HC.out]
          have e : u8s ((kp f.bytes D Z T j).set j (c ^^^ 165)) = (u8s (kp f.bytes D Z T j)).set j (.int .u8 ((c ^^^ 165).toNat : Int)) := List.map_set
          rw [e]
          exact hst)
        have HE : Hid (∀ k, k ≠ g → (wr.setCell ⟨g, j, none⟩ (.int .u8 ((c ^^^ 165).toNat : Int))).heap[k]? = wr.heap[k]?) := Lib.hid (fun k hk => heap_setCell_other _ ⟨g, j, none⟩ _ _ hk)
        have HO2 := Lib.hid (HO.out.set (a := ⟨g, j, none⟩) (.inl (by simp [FileG.own, HV.out, Value.ownBlock])) (.int .u8 ((c ^^^ 165).toNat : Int)))
        have HA := Lib.hid (show (f.blk ≠ g ∧ w.heap.size ≠ g) from ⟨Ne.symm hgf, by omega⟩)
        clear hst hgf hgl
        go_wp2_with fail
        go_roundw
        case rel => exact ⟨j + 1, by omega, by omega, by go_num, Lib.hid ((HE.out _ HA.out.1).trans HD1.out), HS, HO2, Lib.hid ((HE.out _ HA.out.2).trans HBX.out)⟩
        case measure => simp [intOf]; omega
      · have hz2 : ((j : Int) / 64 == Z) = false := by rw [beq_eq_false_iff_ne]; exact hz
        have HS : Hid (kp f.bytes D Z T (j + 1) = kp f.bytes D Z T j) := Lib.hid (kp_skip _ _ _ _ _ (by omega))
        go_wp2_with fail
        go_roundw
        case rel => exact ⟨j + 1, by omega, by omega, by go_num, HD1, Lib.hid (by rw [HS.out]; exact HR.out), HO, HBX⟩
        case measure => simp [intOf]; omega
    · obtain rfl : j = T := by omega
      have e1 := cell_blk HD1.out 1
      simp only [List.getElem?_toArray] at e1
      have e1' : wr.cell? ⟨f.blk, 1, none⟩ = some (.int .i64 D) := e1
      clear e0 kz e1
      go_wp2_with fail
      go_end0
      refine ⟨rfl, .slice va j vc, ?_, ⟨?_, ?_⟩, HO.out.set (a := ⟨f.blk, 1, none⟩) (.inl (by simp [FileG.own])) _⟩
      · rw [HV.out]; cases va <;> rfl
      · rw [heap_setCell_same _ _ _ _ _ _ HD1.out, ← HT.out]; rfl
      · have hlen : (keepB f.bytes f.safe K Z).length = j := by unfold keepB; rw [kp_len, HT.out]
        dsimp only
        rw [hlen]
        have e : keepB f.bytes f.safe K Z = kp f.bytes D Z j j := by unfold keepB; rw [← HT.out, ← HDD.out]
        rw [e]
        exact row_stay HR.out fun g hg => heap_setCell_other _ ⟨f.blk, 1, none⟩ _ _ (fun e => hvo2.out g (by rw [HV.out]; cases va <;> exact hg) e)
end Go.Proofs.Ytajcnendlcjeaaa
