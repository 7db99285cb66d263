/- The document's Rises and Find of layer 9; a block's At and Get. Conditions: those written at each theorem. -/
import Derived.Test.YtolmbccdkfbppaaBkU
import Derived.Lib.QuietBelow
import Derived.BigQuiet
namespace Go.Proofs.Ytolmbccdkfbppaa
open Go.RowKit Go.Sort
set_option linter.unusedVariables false
set_option linter.unusedSimpArgs false

def RiseE (ps : List PB) (w : World) (e : Ending) (w' : World) : Prop := ∃ g : Bool, e = .returned (.bool g) ∧ (g = true ↔ Rise ps) ∧ Below w.heap.size w w'
def UpTo (ps : List PB) (k : Nat) : Prop := ∀ j p, j < k → ps[j]? = some p → rightP p = true ∧ leS p.k (lastB (ps.take j)) = false
set_option maxRecDepth 100000 in
set_option maxHeartbeats 4000000 in
theorem rises_any (ao : Option Addr) (cap : Nat) (ps : List PB) (hx : ∀ p ∈ ps, p.k.size ≤ maxLen ∧ p.v.size ≤ maxLen) (hn : ps.length ≤ maxLen) (w : World) (h : PAt w.heap.size ao ps w) :
    Calls Try.prog 24 #[.slice ao ps.length cap] w (RiseE ps w) := by
  obtain ⟨N, hN⟩ : ∃ N, N = ps.length := ⟨_, rfl⟩
  have HS := Lib.hid h
  have HX := Lib.hid hx
  have HN := Lib.hid hN
  have hr0 := Lib.hid (Below.refl w.heap.size w)
  rw [← hN] at hn ⊢
  unfold maxLen at hn
  clear h hx hN
  go_enter Try.func24, Try.ntmps24
  go_wp2_with fail
  go_loopw [3] (fun i wr => ∃ k : Nat, k ≤ N ∧ i = .int .i64 k ∧ Hid (UpTo ps k) ∧ Hid (Below w.heap.size w wr)) (fun i _ => N - (intOf i).toNat)
  case atStart => exact ⟨0, by omega, rfl, Lib.hid (fun j p hj => by omega), hr0⟩
  case round =>
    obtain ⟨k, hk, rfl, HU, HB⟩ := hrel
    by_cases hlt : k < N
    · have hki : (k : Int) < (N : Int) := by omega
      have hk0 : (0 : Int) ≤ (k : Int) := by omega
      have hkp : k < ps.length := by rw [← HN.out]; exact hlt
      obtain ⟨a, rfl⟩ := HS.out.1 (by omega)
      have HP : Hid (∀ W, Below w.heap.size w W → W.cell? (a.add (k * 2)) = some (.string ps[k].k) ∧ W.cell? ⟨(a.add (k * 2)).block, (a.add (k * 2)).off + 1, none⟩ = some (.string ps[k].v)) := Lib.hid fun W hb => ((HS.out.under hb).2 a rfl (by omega)).2 k ps[k] (List.getElem?_eq_getElem hkp)
      have HXP := Lib.hid (HX.out ps[k] (List.getElem_mem hkp))
      have HPK : Hid (ps[k]? = some ps[k]) := Lib.hid (List.getElem?_eq_getElem hkp)
      obtain ⟨p, hp⟩ : ∃ p, p = ps[k] := ⟨_, rfl⟩
      rw [← hp] at HP HXP HPK
      obtain ⟨K, hK⟩ : ∃ K, K = p.k := ⟨_, rfl⟩
      obtain ⟨V, hV⟩ : ∃ V, V = p.v := ⟨_, rfl⟩
      have HKE := Lib.hid hK
      have HC : Hid (∀ W, Below wr.heap.size wr W → Below w.heap.size w W) := Lib.hid fun W hb => below_mono HB.out hb (Nat.le_refl _)
      have CR : Hid (∀ d os, Calls Try.prog 11 #[.agg #[.string K, .string V]] (grow (redrawn wr d) os) fun e w'' => e = .returned (.bool (rightP p)) ∧ ∃ q : Regrown, w'' = grow (redrawn wr q.d) q.os) := Lib.hid fun d os => Calls.regrown_of (by rw [hK, hV]; exact right_any p HXP.out _)
      rw [← hK, ← hV] at HP
      have cg0 : ∀ d os, (grow (redrawn wr d) os).cell? (a.add (k * 2)) = some (.string K) := fun d os => (HP.out _ (HC.out _ (below_regrown wr d os))).1
      have cg1 : ∀ d os, (grow (redrawn wr d) os).cell? ⟨(a.add (k * 2)).block, (a.add (k * 2)).off + 1, none⟩ = some (.string V) := fun d os => (HP.out _ (HC.out _ (below_regrown wr d os))).2
      clear hp hK hV
      cases hr : rightP p with
      | false =>
        rw [hr] at CR
        have HNO : Hid (¬ Rise ps) := Lib.hid fun h => by
          have := h.ok p (List.mem_of_getElem? HPK.out)
          rw [hr] at this; cases this
        clear hr hkp
        go_wp2_with fail
        refine wp_region_quiet_below (by kernel_rfl) (by kernel_rfl) ?_
        repeat (first | go_big_quiet_step (with_reducible exact CR.out _ _) | quiet_step (with_reducible exact CR.out _ _))
        refine wpQuiet_nil ?_
        intro _ hw'
        obtain ⟨⟨dq, osq⟩, hw''⟩ := hw'
        subst hw''
        have hbg := Lib.hid (HC.out _ (below_regrown wr dq osq))
        go_wp2_with fail
        go_ret
        exact ⟨false, rfl, ⟨(fun h => by cases h), fun h => absurd h HNO.out⟩, hbg.out⟩
      | true =>
        rw [hr] at CR
        by_cases hz : k = 0
        · have HZ := Lib.hid hz
          have hz5 : decide (0 < k) = false := by simp; omega
          have hz2 : ¬ (0 : Int) < (k : Int) := by omega
          have HNX : Hid (UpTo ps (k + 1)) := Lib.hid fun j q hj hq => by
            have hj0 : j = k := by have := HZ.out; omega
            subst hj0
            rw [HPK.out] at hq
            injection hq with hq
            subst hq
            refine ⟨hr, ?_⟩
            rw [HZ.out]
            exact leS_none _ (rightP_iff.1 hr).1
          clear hz hr hkp
          go_wp2_with fail
          refine wp_region_quiet_below (by kernel_rfl) (by kernel_rfl) ?_
          repeat (first | go_big_quiet_step (with_reducible exact CR.out _ _) | quiet_step (with_reducible exact CR.out _ _))
          refine wpQuiet_nil ?_
          intro _ hw'
          obtain ⟨⟨dq, osq⟩, hw''⟩ := hw'
          subst hw''
          have hbg := Lib.hid (HC.out _ (below_regrown wr dq osq))
          go_wp2_with fail
          go_roundw
          case rel => exact ⟨k + 1, by omega, by go_num, HNX, hbg⟩
          case measure => simp [intOf]; omega
        · obtain ⟨m, hm⟩ : ∃ m, k = m + 1 := ⟨k - 1, by omega⟩
          have hmp : m < ps.length := by omega
          have HQ : Hid (∀ W, Below w.heap.size w W → W.cell? (a.add (m * 2)) = some (.string ps[m].k)) := Lib.hid fun W hb => (((HS.out.under hb).2 a rfl (by omega)).2 m ps[m] (List.getElem?_eq_getElem hmp)).1
          have HLQ : Hid (lastB (ps.take k) = ps[m].k) := Lib.hid (by
            subst hm
            rw [lastB_get (ps.take (m + 1)) m (by rw [List.length_take]; omega), List.getElem_take])
          generalize ps[m].k = Q at *
          have cq : ∀ d os, (grow (redrawn wr d) os).cell? (a.add (m * 2)) = some (.string Q) := fun d os => HQ.out _ (HC.out _ (below_regrown wr d os))
          have em : (k : Int) - 1 = (m : Int) := by omega
          have ew : IntKind.i64.wrap ((k : Int) - 1) = (m : Int) := by rw [em, IntKind.wrap_i64]; omega
          have ew2 : IntKind.i64.wrap (m : Int) = (m : Int) := by rw [IntKind.wrap_i64]; omega
          have em2 : (m : Int) < (N : Int) := by omega
          have em3 : (0 : Int) < (k : Int) := by omega
          have em0 : (0 : Int) ≤ (m : Int) := by omega
          have em4 : 0 < k := by omega
          have em5 : decide (0 < k) = true := by simpa using em4
          have HUN : Hid (leS K Q = false → UpTo ps (k + 1)) := Lib.hid fun hl j q hj hq => by
            by_cases hj0 : j = k
            · subst hj0
              rw [HPK.out] at hq
              injection hq with hq
              subst hq
              exact ⟨hr, by rw [HLQ.out, ← HKE.out]; exact hl⟩
            · exact HU.out j q (by omega) hq
          have HUF : Hid (leS K Q = true → ¬ Rise ps) := Lib.hid fun hl h => by
            have := h.up k p HPK.out
            rw [HLQ.out, ← HKE.out, hl] at this; cases this
          clear hm hmp hz hr hkp
          cases hb1 : Op.bytesLess K.toList Q.toList with
          | true =>
            have HNO := Lib.hid (HUF.out (by unfold leS; rw [hb1]; rfl))
            go_wp2_with fail
            refine wp_region_quiet_below (by kernel_rfl) (by kernel_rfl) ?_
            repeat (first | go_big_quiet_step (with_reducible exact CR.out _ _) | quiet_step (with_reducible exact CR.out _ _))
            refine wpQuiet_nil ?_
            intro _ hw'
            obtain ⟨⟨dq, osq⟩, hw''⟩ := hw'
            subst hw''
            have hbg := Lib.hid (HC.out _ (below_regrown wr dq osq))
            go_wp2_with fail
            go_ret
            exact ⟨false, rfl, ⟨(fun h => by cases h), fun h => absurd h HNO.out⟩, hbg.out⟩
          | false =>
            cases hb2 : (K.toList == Q.toList) with
            | true =>
              have HNO := Lib.hid (HUF.out (by unfold leS; rw [hb2]; simp))
              go_wp2_with fail
              refine wp_region_quiet_below (by kernel_rfl) (by kernel_rfl) ?_
              repeat (first | go_big_quiet_step (with_reducible exact CR.out _ _) | quiet_step (with_reducible exact CR.out _ _))
              refine wpQuiet_nil ?_
              intro _ hw'
              obtain ⟨⟨dq, osq⟩, hw''⟩ := hw'
              subst hw''
              have hbg := Lib.hid (HC.out _ (below_regrown wr dq osq))
              go_wp2_with fail
              go_ret
              exact ⟨false, rfl, ⟨(fun h => by cases h), fun h => absurd h HNO.out⟩, hbg.out⟩
            | false =>
              have HNX := Lib.hid (HUN.out (by unfold leS; rw [hb1, hb2]; rfl))
              go_wp2_with fail
              refine wp_region_quiet_below (by kernel_rfl) (by kernel_rfl) ?_
              repeat (first | go_big_quiet_step (with_reducible exact CR.out _ _) | quiet_step (with_reducible exact CR.out _ _))
              refine wpQuiet_nil ?_
              intro _ hw'
              obtain ⟨⟨dq, osq⟩, hw''⟩ := hw'
              subst hw''
              have hbg := Lib.hid (HC.out _ (below_regrown wr dq osq))
              go_wp2_with fail
              go_roundw
              case rel => exact ⟨k + 1, by omega, by go_num, HNX, hbg⟩
              case measure => simp [intOf]; omega
    · obtain rfl : k = N := by omega
      have HF : Hid (k ≤ 4096 → Rise ps) := Lib.hid fun h => ⟨by rw [← HN.out]; exact h, fun p hp => by
        obtain ⟨j, hj, rfl⟩ := List.mem_iff_getElem.1 hp
        exact (HU.out j _ (by rw [HN.out]; exact hj) (List.getElem?_eq_getElem hj)).1, fun i p hi => (HU.out i p (by rw [HN.out]; exact (List.getElem?_eq_some_iff.1 hi).1) hi).2⟩
      by_cases h4 : k ≤ 4096
      · have h4i : (k : Int) ≤ 4096 := by omega
        have HFF := Lib.hid (HF.out h4)
        clear h4
        go_wp2_with fail
        go_ret
        exact ⟨true, rfl, ⟨fun _ => HFF.out, fun _ => rfl⟩, HB.out⟩
      · have h4i : ¬ (k : Int) ≤ 4096 := by omega
        have HNO : Hid (¬ Rise ps) := Lib.hid fun h => h4 (by rw [HN.out]; exact h.len)
        clear h4
        go_wp2_with fail
        go_ret
        exact ⟨false, rfl, ⟨(fun h => by cases h), fun h => absurd h HNO.out⟩, HB.out⟩
set_option maxRecDepth 100000 in
set_option maxHeartbeats 2000000 in
theorem find_any (ao : Option Addr) (cap : Nat) (ps : List PB) (hr : Rise ps) (key : ByteArray) (B : Nat) (w : World) (h : PAt B ao ps w) :
    Calls Try.prog 25 #[.slice ao ps.length cap, .string key] w (SeekE ps key w) := by
  obtain ⟨N, hN⟩ : ∃ N, N = ps.length := ⟨_, rfl⟩
  have hn := hr.len
  have HS := Lib.hid h
  have HR := Lib.hid hr
  have HN := Lib.hid hN
  rw [← hN] at hn ⊢
  clear h hr hN
  go_enter Try.func25, Try.ntmps25
  go_wp2_with fail
  go_loop [5] (fun i => ∃ k : Nat, k ≤ N ∧ i = .int .i64 k ∧ Hid (∀ j p, ps[j]? = some p → j < k → Op.bytesLess p.k.toList key.toList = true)) (fun i => N - (intOf i).toNat)
  case atStart => exact ⟨0, by omega, rfl, Lib.hid (fun j p _ hj => by omega)⟩
  case round =>
    obtain ⟨k, hk, rfl, HL⟩ := hrel
    by_cases hlt : k < N
    · have hki : (k : Int) < (N : Int) := by omega
      have hk0 : (0 : Int) ≤ (k : Int) := by omega
      have hkp : k < ps.length := by rw [← HN.out]; exact hlt
      obtain ⟨a, rfl⟩ := HS.out.1 (by omega)
      have hc := ((HS.out.2 a rfl (by omega)).2 k ps[k] (List.getElem?_eq_getElem hkp)).1
      have HPK : Hid (ps[k]? = some ps[k]) := Lib.hid (List.getElem?_eq_getElem hkp)
      have HGT : Hid (∀ j p, ps[j]? = some p → k < j → Op.bytesLess ps[k].k.toList p.k.toList = true) := Lib.hid (fun j p hp hj => by
        obtain ⟨h1, rfl⟩ := List.getElem?_eq_some_iff.1 hp
        obtain ⟨d, rfl⟩ : ∃ d, j = k + d + 1 := ⟨j - k - 1, by omega⟩
        exact HR.out.mono k d h1)
      generalize ps[k] = P at *
      obtain ⟨Q, hQ⟩ : ∃ Q, Q = P.k := ⟨_, rfl⟩
      rw [← hQ] at hc HGT
      have HQ := Lib.hid hQ
      clear hkp hQ
      cases hl : Op.bytesLess Q.toList key.toList with
      | true =>
        have HN1 : Hid (∀ j p, ps[j]? = some p → j < k + 1 → Op.bytesLess p.k.toList key.toList = true) := Lib.hid (fun j p hp hj => by
          by_cases e : j = k
          · subst e; rw [HPK.out] at hp; injection hp with hp; rw [← hp, ← HQ.out]; exact hl
          · exact HL.out j p hp (by omega))
        go_wp2_with fail
        go_round
        case rel => exact ⟨k + 1, by omega, by go_num, HN1⟩
        case measure => simp [intOf]; omega
      | false =>
        have HF : Hid (SeekP ps key k) := Lib.hid ⟨by rw [← HN.out]; omega, HL.out, fun j p hp hj => by
          by_cases e : j = k
          · subst e; rw [HPK.out] at hp; injection hp with hp; rw [← hp, ← HQ.out]; exact hl
          · cases hb : Op.bytesLess p.k.toList key.toList with
            | false => rfl
            | true =>
              have := less_trans (HGT.out j p hp (by omega)) hb
              rw [hl] at this; cases this⟩
        go_wp2_with fail
        go_ret
        exact ⟨_, rfl, HF.out, rfl⟩
    · obtain rfl : k = N := by omega
      have HF : Hid (SeekP ps key k) := Lib.hid ⟨by rw [← HN.out]; exact Nat.le_refl _, HL.out, fun j p hp hj => by
        have := (List.getElem?_eq_some_iff.1 hp).1
        have := HN.out
        omega⟩
      go_wp2_with fail
      go_ret
      exact ⟨_, rfl, HF.out, rfl⟩
theorem kat_yes {B bb : Nat} {ps : List PB} {w : World} (h : KbAt B bb ps w) (hn : ps.length ≤ 100000) (i : Nat) (p : PB) (hp : ps[i]? = some p) :
    Calls Try.prog 23 #[.pointer (some ⟨bb, 0, none⟩), .int .i64 i] w fun e w' => e = .returned (.tuple #[.agg #[.string p.k, .string p.v], .bool true]) ∧ Below w.heap.size w w' := by
  obtain ⟨hil, hpe⟩ := List.getElem?_eq_some_iff.1 hp
  obtain ⟨hB, v, hb, hr⟩ := h
  obtain ⟨va, vc, rfl⟩ := row_form hr
  obtain ⟨g, rfl⟩ : ∃ g, va = some ⟨g, 0, none⟩ := by
    rcases hr.2 with ⟨hv0, hn⟩ | ⟨g, cap, cur, hv0, _⟩
    · omega
    · injection hv0 with e1 _ _; exact ⟨g, e1⟩
  obtain ⟨W, hW⟩ : ∃ W, W = w.alloc (.cells #[.string ⟨#[]⟩, .string ⟨#[]⟩] 46) := ⟨_, rfl⟩
  have hbl : Below w.heap.size w W := by rw [hW]; exact (Below.refl _ _).alloc (Nat.le_refl _) _
  have hk : KbAt B bb ps W := KbAt.under ⟨hB, _, hb, hr⟩ hbl
  have CL := Lib.hid (klen_any hk)
  have hb' : W.heap[bb]? = some (.cells #[.slice (some ⟨g, 0, none⟩) ps.length vc] 70 (0, 0)) := (hbl.block bb (lt_of_heap hb)).trans hb
  have hr' : W.ownsRow B 46 2 (.slice (some ⟨g, 0, none⟩) ps.length vc) ps.length (pCells ps) := row_stay hr fun x hx => hbl.block x (hr.lt x hx).2
  have q0 : W.cell? ⟨g, i * 2, none⟩ = some (.string p.k) := by rw [hr'.cellAt (i * 2) (by omega), (pCells_at ps i hil).1, hpe]
  have q1 : W.cell? ⟨g, i * 2 + 1, none⟩ = some (.string p.v) := by rw [hr'.cellAt (i * 2 + 1) (by omega), (pCells_at ps i hil).2, hpe]
  have HB := Lib.hid hbl
  obtain ⟨N, hN⟩ : ∃ N, N = ps.length := ⟨_, rfl⟩
  rw [← hN] at CL hb' hil hn
  have c0 : W.cell? ⟨bb, 0, none⟩ = some (.slice (some ⟨g, 0, none⟩) N vc) := cell_blk hb' 0
  have hn0 := heap_alloc_new w (.cells #[.string ⟨#[]⟩, .string ⟨#[]⟩] 46)
  rw [← hW] at hn0
  have x0 := cell_blk hn0 0
  have x1 := cell_blk hn0 1
  have y0 := free_blk hn0 0
  have y1 := free_blk hn0 1
  simp only [List.getElem?_toArray] at x0 x1
  have hii : (i : Int) < (N : Int) := by omega
  have hi0 : (0 : Int) ≤ (i : Int) := by omega
  have HW := Lib.hid hW
  generalize p.k = K at *
  generalize p.v = V at *
  clear hb hr hb' hr' hk hbl hp hpe hN hn0 hil
  go_enter Try.func23, Try.ntmps23
  go_upto_region 1 with fail
  refine wp_letter (fun X => W = X) hW ?_
  rintro _ rfl
  clear hW
  go_wp2_with (go_at_call 20; refine CL.out.mono ?_; rintro e w' ⟨rfl, rfl⟩)
  exact bodyPost_ret (v := .tuple #[.agg #[.string K, .string V], .bool true]) (by simp [results, Try.results23, go_sem, x0, x1, y0, y1]) rfl ⟨rfl, (HB.out.setCell (p := ⟨w.heap.size, 0, none⟩) (Nat.le_refl _) _).setCell (p := ⟨w.heap.size, 1, none⟩) (Nat.le_refl _) _⟩
theorem kat_no {B bb : Nat} {ps : List PB} {w : World} (h : KbAt B bb ps w) (hn : ps.length ≤ 100000) (i : Int) (hi : i < 0 ∨ (ps.length : Int) ≤ i) :
    Calls Try.prog 23 #[.pointer (some ⟨bb, 0, none⟩), .int .i64 i] w fun e w' => e = .returned (.tuple #[.agg #[.string ⟨#[]⟩, .string ⟨#[]⟩], .bool false]) ∧ Below w.heap.size w w' := by
  have HB := Lib.hid ((Below.refl w.heap.size w).alloc (Nat.le_refl _) (.cells #[.string ⟨#[]⟩, .string ⟨#[]⟩] 46))
  have CL := Lib.hid (klen_any (h.under HB.out))
  obtain ⟨N, hN⟩ : ∃ N, N = ps.length := ⟨_, rfl⟩
  rw [← hN] at CL hi hn
  clear h hN
  rcases hi with h1 | h1
  · go_enter Try.func23, Try.ntmps23
    go_wp2_with fail
    exact bodyPost_ret (v := .tuple #[.agg #[.string ⟨#[]⟩, .string ⟨#[]⟩], .bool false]) (by simp [results, Try.results23, go_sem]) rfl ⟨rfl, HB.out⟩
  · have h0 : ¬ i < 0 := by omega
    have h0' : 0 ≤ i := by omega
    go_enter Try.func23, Try.ntmps23
    go_wp2_with (go_at_call 20; refine CL.out.mono ?_; rintro e w' ⟨rfl, rfl⟩)
    exact bodyPost_ret (v := .tuple #[.agg #[.string ⟨#[]⟩, .string ⟨#[]⟩], .bool false]) (by simp [results, Try.results23, go_sem]) rfl ⟨rfl, HB.out⟩
end Go.Proofs.Ytolmbccdkfbppaa
