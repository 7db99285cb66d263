/- What the Go function begin of package disk answers: an operation is counted, and may go on or not. Conditions: those written at each theorem. -/
import Derived.Test.YtajcnendlcjeaaaDkB
import Derived.LoopTactic
import Derived.Deep.CutBlock
import Derived.Deep.DeepCutAuto
import Derived.Deep.RegionHeld
namespace Go.Proofs.Ytajcnendlcjeaaa
open Go.RowKit Go.Maps Go.WideShapes
set_option linter.unusedVariables false
set_option linter.unusedSimpArgs false

/-- May a name be? -/
def nameOk (s : List UInt8) : Bool := decide (1 ≤ s.length) && decide (s.length ≤ 24)
/-- An operation is counted. -/
def beginS (S : DS) (ns : List (List UInt8)) : DS × Int :=
  if S.off = true then (S, 6)
  else if S.armed = true ∧ S.left = 0 then ({ S with calls := S.calls + 1, off := true }, 6)
  else ((if S.armed = true then { S with calls := S.calls + 1, left := S.left - 1 } else { S with calls := S.calls + 1 }), if ns.all nameOk = true then 0 else 1)
theorem beginS_fs (S : DS) (ns : List (List UInt8)) : (beginS S ns).1.fs = S.fs := by
  unfold beginS
  split
  · rfl
  · split
    · rfl
    · dsimp only; split <;> rfl
/-- Names as cells. -/
abbrev strs (xs : List ByteArray) : List Value := xs.map Value.string
/-- A slice in memory. -/
def SAt (ao : Option Addr) (vs : List Value) (w : World) : Prop := (0 < vs.length → ∃ a, ao = some a) ∧ ∀ a, ao = some a → ∀ i u, vs[i]? = some u → w.cell? (a.add i) = some u
def Begun (B b m : Nat) (S : DS) (ns : List (List UInt8)) (w : World) (e : Ending) (w' : World) : Prop :=
  e = .returned (.int .i64 (beginS S ns).2) ∧ DkAt B b m (beginS S ns).1 w' ∧ Only [b] w w'
/-- The names are looked through. -/
theorem SAt.set {ao : Option Addr} {vs : List Value} {w : World} (h : SAt ao vs w) {p : Addr} (hne : ∀ a, ao = some a → a.block ≠ p.block) (u : Value) : SAt ao vs (w.setCell p u) :=
  ⟨h.1, fun a e i x hx => by
    rw [World.cell?_setCell_far _ _ _ _ (by have := hne a e; unfold Addr.add; split <;> exact fun h => this h.symm)]
    exact h.2 a e i x hx⟩
theorem wp_letter {P : Program} {c : Code} {Q : Exit → Act → World → Prop} {a : Act} {w : World} (S : World → Prop) (hs : S w) (h : ∀ W, S W → c.wp P Q a W) : c.wp P Q a w := h w hs
set_option maxRecDepth 100000 in
set_option maxHeartbeats 1000000 in
theorem begin_off {B b m : Nat} {S : DS} {w : World} (h : DkAt B b m S w) (ao : Option Addr) (cap : Nat) (xs : List ByteArray) (ho : S.off = true) :
    Calls Try.prog 37 #[.pointer (some ⟨b, 0, none⟩), .slice ao xs.length cap] w (Begun B b m S (xs.map (·.data.toList)) w) := by
  have c5 := cell_blk h.hd 5
  simp only [List.getElem?_toArray] at c5
  have e5 : w.cell? ⟨b, 5, none⟩ = some (.bool true) := by rw [c5, ← ho]; rfl
  have HF : Hid (Begun B b m S (xs.map (·.data.toList)) w (.returned (.int .i64 6)) w) := Lib.hid (by
    have e : beginS S (xs.map (·.data.toList)) = (S, 6) := by unfold beginS; rw [if_pos ho]
    unfold Begun; rw [e]; exact ⟨rfl, h, Only.refl _ _⟩)
  clear h c5
  go_enter Try.func37, Try.ntmps37
  go_wp2_with fail
  go_ret
  exact HF.out
set_option maxRecDepth 100000 in
set_option maxHeartbeats 1000000 in
theorem begin_stop {B b m : Nat} {S : DS} {w : World} (h : DkAt B b m S w) (ao : Option Addr) (cap : Nat) (xs : List ByteArray) (ho : S.off = false) (ha : S.armed = true) (hl : S.left = 0) (hc : 0 ≤ S.calls ∧ S.calls ≤ 4611686018427387904) :
    Calls Try.prog 37 #[.pointer (some ⟨b, 0, none⟩), .slice ao xs.length cap] w (Begun B b m S (xs.map (·.data.toList)) w) := by
  have c := fun i => cell_blk h.hd i
  have z := fun i => free_blk h.hd i
  have c3 := c 3
  have c5 := c 5
  have c6 := c 6
  have c7 := c 7
  simp only [List.getElem?_toArray] at c3 c5 c6 c7
  rw [ho] at c5
  rw [ha] at c6
  rw [hl] at c7
  have z3 := z 3
  have z5 := z 5
  obtain ⟨C, hC⟩ : ∃ C, S.calls + 1 = C := ⟨_, rfl⟩
  have hw : IntKind.i64.wrap C = C := by rw [IntKind.wrap_i64]; omega
  have HF : Hid (Begun B b m S (xs.map (·.data.toList)) w (.returned (.int .i64 6)) ((w.setCell ⟨b, 3, none⟩ (.int .i64 C)).setCell ⟨b, 5, none⟩ (.bool true))) := Lib.hid (by
    have e : beginS S (xs.map (·.data.toList)) = ({ S with calls := S.calls + 1, off := true }, 6) := by unfold beginS; rw [if_neg (by simp [ho]), if_pos ⟨ha, hl⟩]
    unfold Begun
    rw [e]
    refine ⟨rfl, h.head rfl (fun k hk => ?_) ?_, ((Only.refl _ _).set (a := ⟨b, 3, none⟩) (.inl (by simp)) _).set (a := ⟨b, 5, none⟩) (.inl (by simp)) _⟩
    · rw [heap_setCell_other _ ⟨b, 5, none⟩ _ _ hk, heap_setCell_other _ ⟨b, 3, none⟩ _ _ hk]
    · rw [heap_setCell_same _ _ _ _ _ _ (heap_setCell_same _ _ _ _ _ _ h.hd), ← hC]
      rfl)
  generalize S.calls = sc at *
  clear h c z
  go_enter Try.func37, Try.ntmps37
  go_wp2_with fail
  go_ret
  exact HF.out
/-- The names behind a count. -/
theorem all_drop {xs : List ByteArray} {k : Nat} (h : k < xs.length) : ((xs.map (·.data.toList)).drop k).all nameOk = (nameOk xs[k].data.toList && ((xs.map (·.data.toList)).drop (k + 1)).all nameOk) := by
  rw [List.drop_eq_getElem_cons (by simpa using h)]
  simp
set_option maxRecDepth 100000 in
set_option maxHeartbeats 1000000 in
theorem begin_go {B b m : Nat} {S : DS} {w : World} (h : DkAt B b m S w) (ao : Option Addr) (cap : Nat) (xs : List ByteArray) (hx : xs.length ≤ 1000) (hs : SAt ao (strs xs) w) (hb : ∀ a, ao = some a → a.block ≠ b) (ho : S.off = false) (ha : ¬ (S.armed = true ∧ S.left = 0)) (hc : 0 ≤ S.calls ∧ S.calls ≤ 4611686018427387904) (hl : 0 ≤ S.left ∧ S.left ≤ 9223372036854775807) :
    Calls Try.prog 37 #[.pointer (some ⟨b, 0, none⟩), .slice ao xs.length cap] w (Begun B b m S (xs.map (·.data.toList)) w) := by
  have c := fun i => cell_blk h.hd i
  have z := fun i => free_blk h.hd i
  have c3 := c 3
  have c5 := c 5
  have c6 := c 6
  have c7 := c 7
  simp only [List.getElem?_toArray] at c3 c5 c6 c7
  rw [ho] at c5
  have z3 := z 3
  have z7 := z 7
  obtain ⟨C, hC⟩ : ∃ C, S.calls + 1 = C := ⟨_, rfl⟩
  have hw : IntKind.i64.wrap C = C := by rw [IntKind.wrap_i64]; omega
  obtain ⟨W1, hW1⟩ : ∃ W1, W1 = w.setCell ⟨b, 3, none⟩ (.int .i64 C) := ⟨_, rfl⟩
  have HO1 : Only [b] w W1 := by rw [hW1]; exact (Only.refl _ _).set (a := ⟨b, 3, none⟩) (.inl (by simp)) _
  have HD1 : W1.heap[b]? = some (.cells #[.int .i64 S.room, .int .i64 S.used, .int .i64 S.written, .int .i64 C, .map (some m), .bool S.off, .bool S.armed, .int .i64 S.left] 64 (0, 0)) := by
    rw [hW1, heap_setCell_same _ _ _ _ _ _ h.hd]; rfl
  have HK1 : ∀ k, k ≠ b → W1.heap[k]? = w.heap[k]? := fun k hk => by rw [hW1, heap_setCell_other _ ⟨b, 3, none⟩ _ _ hk]
  have HS1 : SAt ao (strs xs) W1 := by rw [hW1]; exact hs.set (p := ⟨b, 3, none⟩) hb _
  -- the world in which the names are looked through
  have HW : ∃ W2 : World, (S.armed = true → W2 = W1.setCell ⟨b, 7, none⟩ (.int .i64 (S.left - 1))) ∧ (S.armed = false → W2 = W1) ∧ SAt ao (strs xs) W2 ∧ ∀ E : Int, (E = if (xs.map (·.data.toList)).all nameOk = true then 0 else 1) → Begun B b m S (xs.map (·.data.toList)) w (.returned (.int .i64 E)) W2 := by
    cases hAr : S.armed with
    | true =>
      refine ⟨_, fun _ => rfl, (fun e => by cases e), HS1.set (p := ⟨b, 7, none⟩) hb _, fun E hE => ?_⟩
      have e : beginS S (xs.map (·.data.toList)) = ({ S with calls := S.calls + 1, left := S.left - 1 }, E) := by unfold beginS; rw [if_neg (by simp [ho]), if_neg ha, if_pos hAr, ← hE]
      unfold Begun
      rw [e]
      refine ⟨rfl, h.head rfl (fun k hk => ?_) ?_, HO1.set (a := ⟨b, 7, none⟩) (.inl (by simp)) _⟩
      · rw [heap_setCell_other _ ⟨b, 7, none⟩ _ _ hk, HK1 k hk]
      · rw [heap_setCell_same _ _ _ _ _ _ HD1, hC]
        rfl
    | false =>
      refine ⟨_, (fun e => by cases e), fun _ => rfl, HS1, fun E hE => ?_⟩
      have e : beginS S (xs.map (·.data.toList)) = ({ S with calls := S.calls + 1 }, E) := by unfold beginS; rw [if_neg (by simp [ho]), if_neg ha, if_neg (by simp [hAr]), ← hE]
      unfold Begun
      rw [e]
      exact ⟨rfl, h.head rfl HK1 (by rw [HD1, hC]), HO1⟩
  obtain ⟨W2, hA1, hA0, HS2, HF⟩ := HW
  obtain ⟨L, hL⟩ : ∃ L, S.left - 1 = L := ⟨_, rfl⟩
  rw [hL] at hA1
  have hw2 : IntKind.i64.wrap L = L := by rw [IntKind.wrap_i64]; omega
  obtain ⟨n, hn⟩ : ∃ n, n = xs.length := ⟨_, rfl⟩
  have HN := Lib.hid hn
  have HX2 := Lib.hid HS2
  have HFF := Lib.hid HF
  have HW1 := Lib.hid hW1
  rw [← hn] at hx ⊢
  generalize S.calls = sc at *
  generalize S.left = sl at *
  clear HS2 HF hn h c z HO1 HD1 HK1 HS1 hs
  cases hAr : S.armed with
  | true =>
    rw [hAr] at c6 ha
    have hsl : (sl == 0) = false := by
      rw [beq_eq_false_iff_ne]; intro e; exact ha ⟨rfl, e⟩
    have HA := Lib.hid (hA1 hAr)
    clear hA1 hA0 hAr ha
    go_enter Try.func37, Try.ntmps37
    go_upto_region 11 with fail
    refine wp_letter (fun W => W2 = W) (by rw [HA.out, HW1.out]) ?_
    rintro _ rfl
    clear HA HW1 hw hw2 hsl hC hL c3 c5 z3 c6 c7 z7
    go_wp2_with fail
    go_loop [41] (fun i => ∃ k : Nat, k ≤ n ∧ i = .int .i64 k ∧ Hid (((xs.map (·.data.toList)).drop k).all nameOk = (xs.map (·.data.toList)).all nameOk)) (fun i => n - (intOf i).toNat)
    case atStart => exact ⟨0, by omega, rfl, Lib.hid rfl⟩
    case round =>
      obtain ⟨k, hk, rfl, HR⟩ := hrel
      by_cases hlt : k < n
      · have hkx : k < xs.length := by rw [← HN.out]; exact hlt
        obtain ⟨a, rfl⟩ := HX2.out.1 (by simp; omega)
        have hcell : W2.cell? (a.add k) = some (.string xs[k]) := HX2.out.2 a rfl k _ (by simp [hkx])
        have hki : (k : Int) < (n : Int) := by omega
        have HD := all_drop hkx
        obtain ⟨x, hxx⟩ : ∃ x, x = xs[k] := ⟨_, rfl⟩
        rw [← hxx] at hcell HD
        have HD2 := Lib.hid HD
        clear HD hxx
        have hsx : x.data.toList.length = x.size := rfl
        by_cases n1 : (x.size : Int) < 1
        · have HZ : Hid ((xs.map (·.data.toList)).all nameOk = false) := Lib.hid (by
            rw [← HR.out, HD2.out]
            have : nameOk x.data.toList = false := by unfold nameOk; rw [hsx, decide_eq_false (by omega)]; rfl
            rw [this]; rfl)
          clear hsx
          go_wp2_with fail
          go_ret
          exact HFF.out _ (by rw [HZ.out]; rfl)
        · by_cases n24 : 24 < (x.size : Int)
          · have HZ : Hid ((xs.map (·.data.toList)).all nameOk = false) := Lib.hid (by
              rw [← HR.out, HD2.out]
              have : nameOk x.data.toList = false := by unfold nameOk; rw [hsx, decide_eq_false (p := x.size ≤ 24) (by omega)]; simp
              rw [this]; rfl)
            clear hsx
            go_wp2_with fail
            go_ret
            exact HFF.out _ (by rw [HZ.out]; rfl)
          · have HZ : Hid (((xs.map (·.data.toList)).drop (k + 1)).all nameOk = (xs.map (·.data.toList)).all nameOk) := Lib.hid (by
              rw [← HR.out, HD2.out]
              have : nameOk x.data.toList = true := by unfold nameOk; rw [hsx, decide_eq_true (by omega), decide_eq_true (by omega)]; rfl
              rw [this]; rfl)
            clear hsx
            go_wp2_with fail
            go_round
            case rel => exact ⟨k + 1, by omega, by go_num, HZ⟩
            case measure => simp [intOf]; omega
      · obtain rfl : k = n := by omega
        have HZ : Hid ((xs.map (·.data.toList)).all nameOk = true) := Lib.hid (by
          rw [← HR.out, List.drop_of_length_le (by simp [HN.out])]; rfl)
        go_wp2_with fail
        go_ret
        exact HFF.out _ (by rw [HZ.out]; rfl)
  | false =>
    rw [hAr] at c6
    have HA := Lib.hid (hA0 hAr)
    clear hA1 hA0 hAr ha
    go_enter Try.func37, Try.ntmps37
    go_upto_region 11 with fail
    refine wp_letter (fun W => W2 = W) (by rw [HA.out, HW1.out]) ?_
    rintro _ rfl
    clear HA HW1 hw hw2 hC hL c3 c5 z3 c6 c7 z7
    go_wp2_with fail
    go_loop [41] (fun i => ∃ k : Nat, k ≤ n ∧ i = .int .i64 k ∧ Hid (((xs.map (·.data.toList)).drop k).all nameOk = (xs.map (·.data.toList)).all nameOk)) (fun i => n - (intOf i).toNat)
    case atStart => exact ⟨0, by omega, rfl, Lib.hid rfl⟩
    case round =>
      obtain ⟨k, hk, rfl, HR⟩ := hrel
      by_cases hlt : k < n
      · have hkx : k < xs.length := by rw [← HN.out]; exact hlt
        obtain ⟨a, rfl⟩ := HX2.out.1 (by simp; omega)
        have hcell : W2.cell? (a.add k) = some (.string xs[k]) := HX2.out.2 a rfl k _ (by simp [hkx])
        have hki : (k : Int) < (n : Int) := by omega
        have HD := all_drop hkx
        obtain ⟨x, hxx⟩ : ∃ x, x = xs[k] := ⟨_, rfl⟩
        rw [← hxx] at hcell HD
        have HD2 := Lib.hid HD
        clear HD hxx
        have hsx : x.data.toList.length = x.size := rfl
        by_cases n1 : (x.size : Int) < 1
        · have HZ : Hid ((xs.map (·.data.toList)).all nameOk = false) := Lib.hid (by
            rw [← HR.out, HD2.out]
            have : nameOk x.data.toList = false := by unfold nameOk; rw [hsx, decide_eq_false (by omega)]; rfl
            rw [this]; rfl)
          clear hsx
          go_wp2_with fail
          go_ret
          exact HFF.out _ (by rw [HZ.out]; rfl)
        · by_cases n24 : 24 < (x.size : Int)
          · have HZ : Hid ((xs.map (·.data.toList)).all nameOk = false) := Lib.hid (by
              rw [← HR.out, HD2.out]
              have : nameOk x.data.toList = false := by unfold nameOk; rw [hsx, decide_eq_false (p := x.size ≤ 24) (by omega)]; simp
              rw [this]; rfl)
            clear hsx
            go_wp2_with fail
            go_ret
            exact HFF.out _ (by rw [HZ.out]; rfl)
          · have HZ : Hid (((xs.map (·.data.toList)).drop (k + 1)).all nameOk = (xs.map (·.data.toList)).all nameOk) := Lib.hid (by
              rw [← HR.out, HD2.out]
              have : nameOk x.data.toList = true := by unfold nameOk; rw [hsx, decide_eq_true (by omega), decide_eq_true (by omega)]; rfl
              rw [this]; rfl)
            clear hsx
            go_wp2_with fail
            go_round
            case rel => exact ⟨k + 1, by omega, by go_num, HZ⟩
            case measure => simp [intOf]; omega
      · obtain rfl : k = n := by omega
        have HZ : Hid ((xs.map (·.data.toList)).all nameOk = true) := Lib.hid (by
          rw [← HR.out, List.drop_of_length_le (by simp [HN.out])]; rfl)
        go_wp2_with fail
        go_ret
        exact HFF.out _ (by rw [HZ.out]; rfl)
/-- An operation is counted, whatever the disk and the names. -/
theorem begin_any {B b m : Nat} {S : DS} {w : World} (h : DkAt B b m S w) (ao : Option Addr) (cap : Nat) (xs : List ByteArray) (hx : xs.length ≤ 1000) (hs : SAt ao (strs xs) w) (hb : ∀ a, ao = some a → a.block ≠ b) (hc : 0 ≤ S.calls ∧ S.calls ≤ 4611686018427387904) (hl : 0 ≤ S.left ∧ S.left ≤ 9223372036854775807) :
    Calls Try.prog 37 #[.pointer (some ⟨b, 0, none⟩), .slice ao xs.length cap] w (Begun B b m S (xs.map (·.data.toList)) w) := by
  cases ho : S.off with
  | true => exact begin_off h ao cap xs ho
  | false =>
    by_cases ha : S.armed = true ∧ S.left = 0
    · exact begin_stop h ao cap xs ho ha.1 ha.2 hc
    · exact begin_go h ao cap xs hx hs hb ho ha hc hl
theorem begin_nil (v : Value) (w : World) : Calls Try.prog 37 #[.pointer none, v] w fun e w' => e = .returned (.int .i64 1) ∧ w = w' := by
  go_enter Try.func37, Try.ntmps37
  go_wp2_with fail
  go_ret
  exact ⟨rfl, rfl⟩
end Go.Proofs.Ytajcnendlcjeaaa
