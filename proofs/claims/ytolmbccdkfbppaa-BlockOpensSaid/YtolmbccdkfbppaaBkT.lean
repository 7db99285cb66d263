/- What a block tells: how many, where a key would stand, all pairs; two lists that are the same. Conditions: those written at each theorem. -/
import Derived.Test.YtolmbccdkfbppaaBkS
import Derived.Lib.BufferMore
namespace Go.Proofs.Ytolmbccdkfbppaa
open Go.RowKit
set_option linter.unusedVariables false
set_option linter.unusedSimpArgs false

theorem klen_any {B bb : Nat} {ps : List PB} {w : World} (h : KbAt B bb ps w) : Calls Try.prog 20 #[.pointer (some ⟨bb, 0, none⟩)] w fun e w' => e = .returned (.int .i64 ps.length) ∧ w = w' := by
  obtain ⟨_, v, hb, hr⟩ := h
  obtain ⟨va, vc, rfl⟩ := row_form hr
  have c0 : w.cell? ⟨bb, 0, none⟩ = some (.slice va ps.length vc) := cell_blk hb 0
  clear hb hr
  go_enter Try.func20, Try.ntmps20
  go_wp2_with fail
  go_ret
  exact ⟨rfl, rfl⟩
theorem less_tri : ∀ a b : List UInt8, Op.bytesLess a b = false → a ≠ b → Op.bytesLess b a = true
  | [], [], _, h => absurd rfl h
  | [], _ :: _, h, _ => by simp [Op.bytesLess] at h
  | _ :: _, [], _, _ => by simp [Op.bytesLess]
  | a :: x, b :: y, h, hn => by
    simp only [Op.bytesLess, Bool.or_eq_false_iff, Bool.and_eq_false_iff, decide_eq_false_iff_not, beq_eq_false_iff_ne, Bool.or_eq_true, Bool.and_eq_true, decide_eq_true_eq, beq_iff_eq] at h ⊢
    obtain ⟨h1, h2⟩ := h
    by_cases e : a = b
    · subst e
      right
      refine ⟨rfl, less_tri x y (by rcases h2 with h2 | h2; exact absurd rfl h2; exact h2) (fun e => hn (by rw [e]))⟩
    · left
      rcases UInt8.lt_or_lt_of_ne e with h3 | h3
      · exact absurd h3 h1
      · exact h3
theorem less_trans : ∀ {a b c : List UInt8}, Op.bytesLess a b = true → Op.bytesLess b c = true → Op.bytesLess a c = true
  | _, [], _, h1, _ => by simp [Op.bytesLess] at h1
  | _, _ :: _, [], _, h2 => by simp [Op.bytesLess] at h2
  | [], _ :: _, _ :: _, _, _ => by simp [Op.bytesLess]
  | a :: x, b :: y, c :: z, h1, h2 => by
    simp only [Op.bytesLess, Bool.or_eq_true, Bool.and_eq_true, decide_eq_true_eq, beq_iff_eq] at h1 h2 ⊢
    rcases h1 with h1 | ⟨rfl, h1⟩
    · rcases h2 with h2 | ⟨rfl, h2⟩
      · exact .inl (UInt8.lt_trans h1 h2)
      · exact .inl h1
    · rcases h2 with h2 | ⟨rfl, h2⟩
      · exact .inl h2
      · exact .inr ⟨rfl, less_trans h1 h2⟩
theorem leS_false {a b : ByteArray} (h : leS a b = false) : Op.bytesLess b.toList a.toList = true := by
  unfold leS at h
  simp only [Bool.or_eq_false_iff, beq_eq_false_iff_ne] at h
  exact less_tri _ _ h.1 h.2
theorem Rise.next {ps : List PB} (h : Rise ps) (i : Nat) (hi : i + 1 < ps.length) : Op.bytesLess ps[i].k.toList ps[i + 1].k.toList = true := by
  have := h.up (i + 1) ps[i + 1] (List.getElem?_eq_getElem hi)
  rw [lastB_get (ps.take (i + 1)) i (by rw [List.length_take]; omega), List.getElem_take] at this
  exact leS_false this
theorem Rise.mono {ps : List PB} (h : Rise ps) (i : Nat) : ∀ d, (hj : i + d + 1 < ps.length) → Op.bytesLess (ps[i]'(by omega)).k.toList ps[i + d + 1].k.toList = true
  | 0, hj => h.next i hj
  | d + 1, hj => less_trans (h.mono i d (by omega)) (h.next (i + d + 1) hj)
/-- Where a key would stand. -/
def SeekP (ps : List PB) (key : ByteArray) (n : Nat) : Prop :=
  n ≤ ps.length ∧ (∀ j p, ps[j]? = some p → j < n → Op.bytesLess p.k.toList key.toList = true) ∧ (∀ j p, ps[j]? = some p → n ≤ j → Op.bytesLess p.k.toList key.toList = false)
theorem SeekP.one {ps : List PB} {key : ByteArray} {n m : Nat} (h : SeekP ps key n) (k : SeekP ps key m) : n = m := by
  rcases Nat.lt_or_ge n m with h1 | h1
  · have hl : n < ps.length := by have := k.1; omega
    have a := h.2.2 n _ (List.getElem?_eq_getElem hl) (Nat.le_refl _)
    have b := k.2.1 n _ (List.getElem?_eq_getElem hl) h1
    rw [a] at b; cases b
  · rcases Nat.lt_or_ge m n with h2 | h2
    · have hl : m < ps.length := by have := h.1; omega
      have a := k.2.2 m _ (List.getElem?_eq_getElem hl) (Nat.le_refl _)
      have b := h.2.1 m _ (List.getElem?_eq_getElem hl) h2
      rw [a] at b; cases b
    · omega
def SeekE (ps : List PB) (key : ByteArray) (w : World) (e : Ending) (w' : World) : Prop := ∃ n : Nat, e = .returned (.int .i64 n) ∧ SeekP ps key n ∧ w = w'
set_option maxRecDepth 100000 in
set_option maxHeartbeats 2000000 in
theorem kseek_any {B bb : Nat} {ps : List PB} {w : World} (h : KbAt B bb ps w) (hr : Rise ps) (key : ByteArray) : Calls Try.prog 27 #[.pointer (some ⟨bb, 0, none⟩), .string key] w (SeekE ps key w) := by
  have CL := Lib.hid (klen_any h)
  obtain ⟨_, v, hb, hrow⟩ := h
  obtain ⟨va, vc, rfl⟩ := row_form hrow
  obtain ⟨N, hN⟩ : ∃ N, N = ps.length := ⟨_, rfl⟩
  have hn4 := hr.len
  rw [← hN] at hb hrow CL hn4
  have c0 : w.cell? ⟨bb, 0, none⟩ = some (.slice va N vc) := cell_blk hb 0
  have HR := Lib.hid hr
  have HN := Lib.hid hN
  have HROW := Lib.hid hrow
  clear hb hrow hr hN
  go_enter Try.func27, Try.ntmps27
  go_wp2_with fail
  refine CL.out.mono ?_
  rintro e w1 ⟨rfl, rfl⟩
  go_wp2_with fail
  go_loop [5, 6] (fun l h => ∃ lo hi : Nat, lo ≤ hi ∧ hi ≤ N ∧ l = .int .i64 lo ∧ h = .int .i64 hi ∧ Hid (∀ j p, ps[j]? = some p → j < lo → Op.bytesLess p.k.toList key.toList = true) ∧ Hid (∀ j p, ps[j]? = some p → hi ≤ j → Op.bytesLess p.k.toList key.toList = false)) (fun l h => (intOf h - intOf l).toNat)
  case atStart => exact ⟨0, N, by omega, by omega, rfl, rfl, Lib.hid (fun j p _ hj => by omega), Lib.hid (fun j p hp hj => by have := (List.getElem?_eq_some_iff.1 hp).1; have := HN.out; omega)⟩
  case round =>
    obtain ⟨lo, hi, hlh, hhn, rfl, rfl, HL, HH⟩ := hrel
    by_cases hlt : lo < hi
    · have hlti : (lo : Int) < (hi : Int) := by omega
      obtain ⟨m, hm⟩ : ∃ m, m = (lo + hi) / 2 := ⟨_, rfl⟩
      have hmi : ((lo : Int) + (hi : Int)) / 2 = (m : Int) := by omega
      have hm1 : lo ≤ m := by omega
      have hm2 : m < hi := by omega
      have hmN : (m : Int) < (N : Int) := by omega
      have hm0 : (0 : Int) ≤ (m : Int) := by omega
      have hmp : m < ps.length := by rw [← HN.out]; omega
      obtain ⟨g, hg⟩ : ∃ g, va = some ⟨g, 0, none⟩ := by
        rcases HROW.out.2 with ⟨hv0, hn⟩ | ⟨g, cap, cur, hv0, _⟩
        · omega
        · injection hv0 with e1 _ _; exact ⟨g, e1⟩
      subst hg
      have hc : w.cell? ⟨g, m * 2, none⟩ = some (.string ps[m].k) := by rw [HROW.out.cellAt (m * 2) (by omega), (pCells_at ps m hmp).1]
      have HLT : Hid (∀ j p, ps[j]? = some p → j < m → Op.bytesLess p.k.toList ps[m].k.toList = true) := Lib.hid (fun j p hp hj => by
        obtain ⟨h1, rfl⟩ := List.getElem?_eq_some_iff.1 hp
        obtain ⟨d, rfl⟩ : ∃ d, m = j + d + 1 := ⟨m - j - 1, by omega⟩
        exact HR.out.mono j d hmp)
      have HGT : Hid (∀ j p, ps[j]? = some p → m < j → Op.bytesLess ps[m].k.toList p.k.toList = true) := Lib.hid (fun j p hp hj => by
        obtain ⟨h1, rfl⟩ := List.getElem?_eq_some_iff.1 hp
        obtain ⟨d, rfl⟩ : ∃ d, j = m + d + 1 := ⟨j - m - 1, by omega⟩
        exact HR.out.mono m d h1)
      have HPM : Hid (ps[m]? = some ps[m]) := Lib.hid (List.getElem?_eq_getElem hmp)
      generalize ps[m] = P at *
      obtain ⟨Q, hQ⟩ : ∃ Q, Q = P.k := ⟨_, rfl⟩
      rw [← hQ] at hc HLT HGT
      have HQ := Lib.hid hQ
      clear hm hmp hQ
      cases hl : Op.bytesLess Q.toList key.toList with
      | true =>
        have HN1 : Hid (∀ j p, ps[j]? = some p → j < m + 1 → Op.bytesLess p.k.toList key.toList = true) := Lib.hid (fun j p hp hj => by
          by_cases e : j = m
          · subst e; rw [HPM.out] at hp; injection hp with hp; rw [← hp, ← HQ.out]; exact hl
          · exact less_trans (HLT.out j p hp (by omega)) hl)
        go_wp2_with fail
        go_round
        case rel => exact ⟨m + 1, hi, by omega, hhn, by go_num, rfl, HN1, HH⟩
        case measure => simp [intOf]; omega
      | false =>
        have HN1 : Hid (∀ j p, ps[j]? = some p → m ≤ j → Op.bytesLess p.k.toList key.toList = false) := Lib.hid (fun j p hp hj => by
          by_cases e : j = m
          · subst e; rw [HPM.out] at hp; injection hp with hp; rw [← hp, ← HQ.out]; exact hl
          · cases hb : Op.bytesLess p.k.toList key.toList with
            | false => rfl
            | true =>
              have := less_trans (HGT.out j p hp (by omega)) hb
              rw [hl] at this; cases this)
        go_wp2_with fail
        go_round
        case rel => exact ⟨lo, m, by omega, by omega, rfl, by rw [hmi], HL, HN1⟩
        case measure => simp [intOf]; omega
    · obtain rfl : lo = hi := by omega
      have HF : Hid (SeekP ps key lo) := Lib.hid ⟨by rw [← HN.out]; omega, HL.out, HH.out⟩
      go_wp2_with fail
      go_ret
      exact ⟨_, rfl, HF.out, rfl⟩
def AllE (ps : List PB) (w : World) (e : Ending) (w' : World) : Prop := ∃ va vc, e = .returned (.slice va ps.length vc) ∧ PAt w'.heap.size va ps w' ∧ Below w.heap.size w w'
theorem pCells_one {ps : List PB} {u : Value} (h : u ∈ pCells ps) : u.oneCell' = true := by
  unfold pCells at h
  obtain ⟨p, _, hp⟩ := List.mem_flatMap.1 h
  simp at hp
  rcases hp with rfl | rfl <;> rfl
set_option maxRecDepth 100000 in
theorem clone_pairs {B : Nat} {va : Option Addr} {vc : Nat} {ps : List PB} {w : World} (R : w.ownsRow B 46 2 (.slice va ps.length vc) ps.length (pCells ps)) (hn : ps.length ≤ 100000) :
    Calls Try.prog 40 #[.slice va ps.length vc] w (AllE ps w) := by
  obtain ⟨N, hN⟩ : ∃ N, N = ps.length := ⟨_, rfl⟩
  have HN := Lib.hid hN
  rw [← hN] at R hn ⊢
  clear hN
  have hr0 := Below.refl w.heap.size w
  rcases R.2 with ⟨hv, h0⟩ | ⟨g, cap, cur, hv, _, hg, hnc, hcm, _⟩
  · injection hv with e1 e2 e3
    subst e1 e3
    have HP : Hid (PAt w.heap.size none ps w) := Lib.hid (PAt.of_row R HN.out)
    have HE : Hid (∀ e w', e = Ending.returned (.slice none N 0) → w = w' → AllE ps w e w') := Lib.hid (fun e w' he hw => by
      subst hw
      exact ⟨none, 0, by rw [he, HN.out], HP.out, hr0⟩)
    subst h0
    have hq : ∀ w, (binOp .eql 44 (.slice none 0 0) (.slice none 0 0)).run Try.prog w = .ok (.bool true) w := fun w => Lib.run_eql_slice_nil_nil w 0 0 Try.underlying44
    clear R
    go_enter Try.func40, Try.ntmps40
    go_wp2_with fail
    go_ret
    exact HE.out _ _ rfl rfl
  · injection hv with e1 e2 e3
    subst e1 e3
    obtain ⟨i0, hi, he⟩ := Option.map_eq_some_iff.1 kpInfo
    simp only [Prod.mk.injEq] at he
    have R0 : Hid ((w.alloc (Obj.cells #[] 46)).ownsRow w.heap.size 46 2 (.slice (some ⟨w.heap.size, 0, none⟩) 0 0) 0 []) := Lib.hid (World.ownsRow_made (base := w.heap.size) (e := 46) (size := 2) w #[] 0 (Nat.le_refl _) (by decide) rfl)
    have RC : Hid (∀ j u, (pCells ps)[j]? = some u → (w.alloc (Obj.cells #[] 46)).cell? ((⟨g, 0, none⟩ : Addr).add j) = some u) := Lib.hid (fun j u hj => by
      have R' := R.alloc (Obj.cells #[] 46)
      exact R'.cells rfl j u hj)
    have KA : Hid (Below w.heap.size w (w.alloc (Obj.cells #[] 46))) := Lib.hid (hr0.alloc (Nat.le_refl _) _)
    have PL : Hid ((pCells ps).length = N * 2) := Lib.hid (by rw [pCells_len, HN.out])
    have hq : ∀ w, (binOp .eql 44 (.slice (some ⟨g, 0, none⟩) N vc) (.slice none 0 0)).run Try.prog w = .ok (.bool false) w := fun w => Lib.run_eql_slice_some_nil w ⟨g, 0, none⟩ N vc Try.underlying44
    clear hcm hg
    go_enter Try.func40, Try.ntmps40
    go_wp2_with (at_builtin; refine wpList_append_own _ rfl _ _ 44 rfl w.heap.size 46 i0 (.agg #[.string ⟨#[]⟩, .string ⟨#[]⟩]) 2 32 Try.underlying44 hi he.1 he.2.1 he.2.2 rfl (by decide) _ 0 [] rfl R0.out ⟨g, 0, none⟩ N vc (pCells ps) rfl PL.out RC.out (fun u hu => pCells_one hu) (by unfold maxLen; omega) (by omega) KA.out.size ?_; intro v' w2 hrow hgr _; obtain ⟨va2, vc2, rfl⟩ := row_form hrow)
    have HB : Hid (Below w.heap.size w w2) := Lib.hid (KA.out.grown hgr KA.out.size (fun g hg => (R0.out.lt g hg).1))
    have HR : Hid (w2.ownsRow w.heap.size 46 2 (.slice va2 (0 + N) vc2) (0 + N) (pCells ps)) := Lib.hid (by simpa using hrow)
    clear hrow hgr
    go_ret
    refine ⟨va2, vc2, ?_, ?_, HB.out⟩
    · rw [← HN.out]; simp
    · have h := HR.out
      rw [Nat.zero_add] at h
      exact PAt.of_row h HN.out
theorem kall_any {B bb : Nat} {ps : List PB} {w : World} (h : KbAt B bb ps w) (hn : ps.length ≤ 100000) : Calls Try.prog 22 #[.pointer (some ⟨bb, 0, none⟩)] w (AllE ps w) := by
  obtain ⟨_, v, hb, hrow⟩ := h
  obtain ⟨va, vc, rfl⟩ := row_form hrow
  have CC := Lib.hid (clone_pairs hrow hn)
  obtain ⟨N, hN⟩ : ∃ N, N = ps.length := ⟨_, rfl⟩
  rw [← hN] at hb CC
  have HN := Lib.hid hN
  have c0 : w.cell? ⟨bb, 0, none⟩ = some (.slice va N vc) := cell_blk hb 0
  clear hb hrow hN
  go_enter Try.func22, Try.ntmps22
  go_wp2_with fail
  refine CC.out.mono ?_
  rintro e w1 ⟨va2, vc2, rfl, h1, h2⟩
  have H1 : Hid (AllE ps w (.returned (.slice va2 N vc2)) w1) := Lib.hid ⟨va2, vc2, by rw [HN.out], h1, h2⟩
  rw [← HN.out]
  clear h1 h2
  go_wp2_with fail
  go_ret
  exact H1.out
end Go.Proofs.Ytolmbccdkfbppaa
