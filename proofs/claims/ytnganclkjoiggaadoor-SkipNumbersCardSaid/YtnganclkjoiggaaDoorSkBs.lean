/- cmp.Less, and the last node ahead of a key in each chain. Conditions: those written at each theorem. -/
import Derived.Test.YtnganclkjoiggaaDoorSkAs
import Derived.Deep.LoopGhost
namespace Go.Proofs.YtnganclkjoiggaaDoor
open Go.RowKit Go.Maps Go.WideShapes
set_option linter.unusedVariables false
set_option linter.unusedSimpArgs false
namespace sk
theorem nan_any (x : ByteArray) (w : World) : Calls Tryd.prog 43 #[.string x] w fun e w' => e = .returned (.bool false) ∧ w = w' := by
  go_enter Tryd.func43, Tryd.ntmps43
  go_wp2_with fail
  go_ret
  exact ⟨by simp, rfl⟩
theorem less_any (a b : ByteArray) (w : World) : Calls Tryd.prog 40 #[.string a, .string b] w fun e w' => e = .returned (.bool (lt a b)) ∧ w = w' := by
  go_enter Tryd.func40, Tryd.ntmps40
  go_wp2_with (go_at_call 43; (with_reducible refine (nan_any _ _).mono ?_); rintro e w' ⟨rfl, rfl⟩)
  go_ret
  exact ⟨by simp [lt, ByteArray.toList_eq], rfl⟩
/-- Is a key passed? -/
def below (pass : Bool) (k x : ByteArray) : Bool := lt x k || (pass && !lt k x)
def lst (A : List Nd) (i : Nat) : Value := nx A.reverse nil i
theorem lst_last {A1 A2 : List Nd} {p : Nd} {i : Nat} (hi : i < p.h) (h2 : ∀ n ∈ A2, n.h ≤ i) : lst (A1 ++ p :: A2) i = ptr p := by
  unfold lst
  rw [List.reverse_append, List.reverse_cons, List.append_assoc, nx_append, nx_none (fun n hn => h2 n (List.mem_reverse.1 hn)), nx_append]
  simp [nx, hi]
def lasts (A : List Nd) (i : Nat) : Array Value := rowOf 16 fun j => if j < i then .pointer none else lst A j
theorem lasts_step (A : List Nd) {i : Nat} (hi : i < 16) : (lasts A (i + 1)).setIfInBounds i (lst A i) = lasts A i := by
  unfold lasts
  refine rowOf_set hi ?_ fun j hj => ?_
  · simp
  · by_cases h : j < i
    · simp [h, show j < i + 1 by omega]
    · simp [h, show ¬ j < i + 1 by omega]
theorem lasts_16 (A : List Nd) : lasts A 16 = rowOf 16 nil := rowOf_congr fun i hi => by simp [hi, nil]
theorem nx_ptr (A : List Nd) (i : Nat) : ∃ o, nx A nil i = .pointer o := by
  rcases nx_cases A nil i with ⟨_, p, _, _, _, _, h⟩ | ⟨_, h⟩
  · exact ⟨_, h⟩
  · exact ⟨none, h⟩
theorem NdAt.cells {n : Nd} {f : Nat → Value} {w : World} (h : NdAt n f w) : w.cell? ⟨n.b, 0, none⟩ = some (.string n.k) ∧ w.cell? ⟨n.b, 1, none⟩ = some (.int .i64 n.v) ∧ w.cell? ⟨n.b, 2, none⟩ = some (.slice (some ⟨n.nb, 0, none⟩) n.h n.h) ∧ ∀ i, i < n.h → w.cell? ⟨n.nb, i, none⟩ = some (f i) :=
  ⟨cell_blk h.1 0, cell_blk h.1 1, cell_blk h.1 2, fun i hi => by rw [cell_blk h.2 i, rowOf_at f hi]⟩
theorem SkAt.node {B m : Nat} {H : Nd} {mx : Int} {ns : List Nd} {w : World} (h : SkAt B m H mx ns w) {A T : List Nd} {p : Nd} (e : H :: ns = A ++ p :: T) : NdAt p (nx T nil) w := by
  have := h.rw_
  rw [e] at this
  exact this.at
theorem setRow_only {F : List Nat} {w w' : World} (h : Only F w w') {b : Nat} (hb : b ∈ F ∨ w.heap.size ≤ b) (cs : Array Value) : Only F w (w'.setRow b cs) :=
  ⟨h.os, h.tape, h.output, by simpa using h.size, fun k hk hn => by
    rw [setRow_other w' b k cs (fun e => hb.elim (fun hm => hn (by rw [e]; exact hm)) (fun hl => by omega))]; exact h.block k hk hn⟩
theorem row16 : rowOf 16 nil = #[.pointer none, .pointer none, .pointer none, .pointer none, .pointer none, .pointer none, .pointer none, .pointer none, .pointer none, .pointer none, .pointer none, .pointer none, .pointer none, .pointer none, .pointer none, .pointer none] := rfl
/-- Where the walk down stands. -/
structure DnAt (w0 : World) (A : List Nd) (i : Nat) (w : World) : Prop where
  bel : Below w0.heap.size w0 w
  z : w.heap[w0.heap.size]? = some (.cells (rowOf 16 nil) 66 (0, 0))
  rw_ : w.heap[w0.heap.size + 1]? = some (.cells (lasts A i) 66 (0, 0))
theorem DnAt.start (w : World) (A : List Nd) : DnAt w A 16 ((w.alloc (.cells (rowOf 16 nil) 66)).alloc (.cells (rowOf 16 nil) 66)) := by
  refine ⟨((Below.refl _ _).alloc (Nat.le_refl _) _).alloc (by simp) _, ?_, ?_⟩
  · rw [Below.heap_alloc _ _ _ (by simp)]; exact heap_alloc_new w _
  · rw [lasts_16]
    have := heap_alloc_new (w.alloc (.cells (rowOf 16 nil) 66)) (.cells (rowOf 16 nil) 66)
    simpa using this
theorem DnAt.step {w0 w : World} {A : List Nd} {i : Nat} (h : DnAt w0 A (i + 1) w) (hi : i < 16) : DnAt w0 A i (w.setCell ⟨w0.heap.size + 1, i, none⟩ (lst A i)) :=
  ⟨h.bel.setCell (p := ⟨w0.heap.size + 1, i, none⟩) (by dsimp only; omega) _, (set_other _ _ _ _ (by omega)).trans h.z, by rw [set_same _ h.rw_, lasts_step A hi]⟩
theorem arrI : (Tryd.prog.info? 66).map (·.size) = some 16 := by kernel_rfl
theorem rowOf_size (h : Nat) (f : Nat → Value) : (rowOf h f).size = h := by simp [rowOf]
theorem lasts_ptr (A : List Nd) : (lasts A 0).all (·.oneCell') = true := by
  rw [Array.all_eq_true_iff_forall_mem]
  intro v hv
  simp only [lasts, rowOf, List.mem_toArray, List.mem_map] at hv
  obtain ⟨j, _, rfl⟩ := hv
  obtain ⟨o, ho⟩ := nx_ptr A.reverse j
  simp only [Nat.not_lt_zero, if_false, lst, ho]
  rfl
theorem wpList_store_row {ops : Array Oper} {rest : List Oper} {o : Oper} {a : Act} {w : World} {Q : Exit → Act → World → Prop} (hgd : o.guard = none) (ty : TypeId) (x y : Operand) (ho : o.op = .store ty x y)
    (g : Nat) (cells : Array Value) (hx : a.eval x = .pointer (some ⟨g, 0, none⟩)) (hy : a.eval y = .agg cells)
    (t : TypeId) (old : Array Value) (hg : w.heap[g]? = some (.cells old t (0, 0))) (hi : (Tryd.prog.info? ty).map (·.size) = some cells.size)
    (hold : old.size = cells.size) (h1 : cells.all (·.oneCell') = true)
    (h : wpList Tryd.prog ops Q rest (a.put o.dst undef) (w.setRow g cells)) : wpList Tryd.prog ops Q (o :: rest) a w :=
  wpList_plain hgd fun _ hK => wp_store_row ty x y ho g cells hx hy t old hg hi hold h1 (hK _ _ h)
theorem lasts_size (A : List Nd) : (Tryd.prog.info? 66).map (·.size) = some (lasts A 0).size := by
  rw [show (lasts A 0).size = 16 from rowOf_size _ _]; exact arrI
/-- The end of the walk down: what is answered. -/
theorem DnAt.out {w0 w : World} {A : List Nd} (h : DnAt w0 A 0 w) :
    (w.setRow w0.heap.size (lasts A 0)).heap[w0.heap.size]? = some (.cells (lasts A 0) 66 (0, 0)) ∧ Below w0.heap.size w0 (w.setRow w0.heap.size (lasts A 0)) := by
  refine ⟨setRow_heap _ _ _ _ _ _ h.z, ?_⟩
  have := setRow_only (F := [w0.heap.size]) (Below.only h.bel _) (b := w0.heap.size) (.inl (by simp)) (lasts A 0)
  exact this.below (by simp) (Nat.le_refl _) (Below.refl _ _)
theorem mem_tail {H p : Nd} {As A1 T : List Nd} (e : H :: As = A1 ++ p :: T) {x : Nd} (hx : x ∈ T) : x ∈ As := by
  cases A1 with
  | nil => injection e with _ e; rw [e]; exact hx
  | cons a A1 => injection e with _ e; rw [e]; exact List.mem_append_right _ (List.mem_cons_of_mem _ hx)
theorem below_test {pass : Bool} {k x : ByteArray} : (!lt x k && (!pass || lt k x)) = !below pass k x := by
  unfold below; cases lt x k <;> cases pass <;> cases lt k x <;> rfl
set_option maxRecDepth 100000 in
set_option maxHeartbeats 4000000 in
theorem before_any {B m : Nat} {H : Nd} {mx : Int} {As Bs : List Nd} {w : World} (h : SkAt B m H mx (As ++ Bs) w) (k : ByteArray) (pass : Bool) (hA : ∀ n ∈ As, below pass k n.k = true) (hB : ∀ n ∈ Bs, below pass k n.k = false) :
    Calls Tryd.prog 31 #[.pointer (some ⟨m, 0, none⟩), .string k, .bool pass] w fun e w' => e = .returned (.agg (lasts (H :: As) 0)) ∧ Below w.heap.size w w' := by
  have HH := Lib.hid h
  have HA := Lib.hid hA
  have HB := Lib.hid hB
  have HHH : Hid (16 ≤ H.h) := Lib.hid (by have := h.hh.1; omega)
  have HH16 : Hid (∀ n ∈ As, n.h ≤ 16) := Lib.hid fun n hn => (h.hh.2 n (List.mem_append_left _ hn)).2
  have C0 : Hid (∀ wr, Below w.heap.size w wr → wr.cell? ⟨m, 0, none⟩ = some (ptr H)) := Lib.hid fun wr hb => by
    have := cell_blk (h.under hb).hd 0
    simpa using this
  have D0 := DnAt.start w (H :: As)
  rw [row16] at D0
  have D1 := Lib.hid D0
  clear D0
  obtain ⟨hb, hHB⟩ : ∃ b, b = H.b := ⟨_, rfl⟩
  have HPB := Lib.hid hHB
  unfold ptr at C0
  rw [← hHB] at C0
  clear h hA hB hHB
  go_enter Tryd.func31, Tryd.ntmps31
  go_upto_region 2 with fail
  refine wp_letter (DnAt w (H :: As) 16) D1.out ?_
  intro w1 hD1
  have D0 := Lib.hid hD1
  have c00 := C0.out _ hD1.bel
  clear hD1 D1
  go_wp2_with fail
  go_loopw [8, 9] (fun v i wr => ∃ (j q : Nat) (A1 : List Nd) (p : Nd) (A2 : List Nd), j ≤ 16 ∧ i = .int .i64 ((j : Int) - 1) ∧ v = .pointer (some ⟨q, 0, none⟩) ∧ Hid (q = p.b) ∧ Hid (H :: As = A1 ++ p :: A2) ∧ Hid (j ≤ p.h) ∧ Hid (∀ n ∈ A2, n.h ≤ j) ∧ Hid (DnAt w (H :: As) j wr)) (fun _ i _ => (intOf i + 1).toNat)
  case atStart => exact ⟨16, hb, [], H, As, by omega, by go_num, rfl, HPB, Lib.hid rfl, HHH, HH16, D0⟩
  case round =>
    obtain ⟨j, q, A1, p, A2, hj, rfl, rfl, HQ, HE, HP, HN, HD⟩ := hrel
    clear D0 c00
    rcases Nat.eq_zero_or_pos j with rfl | hj0
    · go_wp2_with (first | (refine wpList_load_row rfl 66 (.tmp 7) rfl (w.heap.size + 1) rfl _ _ _ _ HD.out.rw_ Tryd.underlying66 rfl (lasts_size _) ?_) | (refine wpList_store_row rfl 66 (.tmp 6) (.tmp 58) rfl w.heap.size (lasts (H :: As) 0) rfl rfl _ _ HD.out.z (lasts_size _) (by rw [rowOf_size]; exact (rowOf_size _ _).symm) (lasts_ptr _) ?_))
      refine bodyPost_ret (results_cell_row rfl _ _ w.heap.size _ (lasts (H :: As) 0) _ _ rfl HD.out.out.1 Tryd.underlying66 rfl (lasts_size _)) rfl ⟨rfl, HD.out.out.2⟩
    · obtain ⟨i, rfl⟩ : ∃ i, j = i + 1 := ⟨j - 1, by omega⟩
      have ei : (((i + 1 : Nat) : Int) - 1) = (i : Int) := by omega
      rw [ei]
      have i0 : (0 : Int) ≤ (i : Int) := by omega
      have i16 : (i : Int) < 16 := by omega
      obtain ⟨wo, hwo⟩ : ∃ wo : World, wr = wo := ⟨_, rfl⟩
      subst hwo
      obtain ⟨nb, hnb⟩ : ∃ x, x = p.nb := ⟨_, rfl⟩
      obtain ⟨ph, hph⟩ : ∃ x, x = p.h := ⟨_, rfl⟩
      have np : (i : Int) < (ph : Int) := by rw [hph]; have := HP.out; omega
      have HI1 : Hid (i < p.h) := Lib.hid HP.out
      have HS := Lib.hid (HH.out.under HD.out.bel)
      obtain ⟨_, _, n2, n3⟩ := (HS.out.node (A := A1) (T := A2 ++ Bs) (p := p) (by rw [← List.cons_append, HE.out]; simp)).cells
      have n4 := n3 i HP.out
      obtain ⟨o, ho⟩ := nx_ptr (A2 ++ Bs) i
      rw [ho] at n4
      rw [← HQ.out, ← hnb, ← hph] at n2
      rw [← hnb] at n4
      have HO := Lib.hid ho
      clear n3 hnb hph ho HN
      have l1 := cell_blk HD.out.rw_ i
      have l2 := free_blk HD.out.rw_ i
      rw [show (lasts (H :: As) (i + 1))[i]? = some (.pointer none) by unfold lasts; rw [rowOf_at _ (by omega), if_pos (by omega)]] at l1
      go_wp2_with fail
      go_loopg [8, 10] A2.length (fun g v u wi => ∃ (q : Nat) (A1 : List Nd) (p : Nd) (A2 : List Nd) (o : Option Addr), v = .pointer (some ⟨q, 0, none⟩) ∧ u = .pointer o ∧ Hid (q = p.b) ∧ Hid (H :: As = A1 ++ p :: A2) ∧ Hid (i < p.h) ∧ Hid (nx (A2 ++ Bs) nil i = .pointer o) ∧ Hid (A2.length = g) ∧ wi = wr)
      case atStart => exact ⟨q, A1, p, A2, o, rfl, rfl, HQ, HE, HI1, HO, Lib.hid rfl, rfl⟩
      case round =>
        clear n2 n4 np HE HO HI1 HP HQ
        obtain ⟨q, A1, p, A2, o, rfl, rfl, HQ, HE, HP, HO, HG, rfl⟩ := hrel
        rcases nx_cases A2 (nx Bs nil) i with ⟨C1, q2, C2, hA2, hi2, hC1, hnx⟩ | ⟨hall, hnx⟩
        · obtain ⟨r, hr⟩ : ∃ x, x = q2.b := ⟨_, rfl⟩
          have ho : o = some ⟨r, 0, none⟩ := by
            have := HO.out
            rw [nx_append, hnx, ptr, ← hr] at this
            injection this with this; exact this.symm
          subst ho
          have HR := Lib.hid hr
          have HA2 := Lib.hid hA2
          have HI2 := Lib.hid hi2
          have HLT : Hid (C2.length < gk) := Lib.hid (by rw [← HG.out, hA2]; simp; omega)
          obtain ⟨m0, _, m2, m3⟩ := (HS.out.node (A := A1 ++ p :: C1) (T := C2 ++ Bs) (p := q2) (by rw [← List.cons_append, HE.out, hA2]; simp)).cells
          have m4 := m3 i hi2
          obtain ⟨o2, ho2⟩ := nx_ptr (C2 ++ Bs) i
          rw [ho2] at m4
          have HO2 := Lib.hid ho2
          obtain ⟨qn, hqn⟩ : ∃ x, x = q2.nb := ⟨_, rfl⟩
          obtain ⟨qh, hqh⟩ : ∃ x, x = q2.h := ⟨_, rfl⟩
          have mp : (i : Int) < (qh : Int) := by rw [hqh]; omega
          rw [← hr, ← hqn, ← hqh] at m2
          rw [← hr] at m0
          rw [← hqn] at m4
          have hbel := HA.out q2 (mem_tail HE.out (by rw [hA2]; simp))
          have CL1 := Lib.hid (less_any q2.k k wr)
          have CL2 := Lib.hid (less_any k q2.k wr)
          obtain ⟨x, hx⟩ : ∃ x, x = q2.k := ⟨_, rfl⟩
          rw [← hx] at m0 hbel CL1 CL2
          unfold below at hbel
          clear m3 hA2 hi2 hC1 hnx hr ho2 hqn hqh hx
          cases e1 : lt x k with
          | true =>
            rw [e1] at CL1
            clear hbel e1
            go_wp2_with (go_at_call 40; (first | (with_reducible refine CL1.out.mono ?_) | (with_reducible refine CL2.out.mono ?_)); rintro e w' ⟨rfl, rfl⟩)
            go_roundg C2.length
            case rel => exact ⟨r, A1 ++ p :: C1, q2, C2, o2, rfl, rfl, HR, Lib.hid (by rw [HE.out, HA2.out]; simp), HI2, HO2, Lib.hid rfl, rfl⟩
            case measure => exact HLT.out
          | false =>
            rw [e1] at CL1 hbel
            cases pass with
            | false => cases hbel
            | true =>
              cases e2 : lt k x with
              | true => rw [e2] at hbel; cases hbel
              | false =>
                rw [e2] at CL2
                clear hbel e1 e2
                go_wp2_with (go_at_call 40; (first | (with_reducible refine CL1.out.mono ?_) | (with_reducible refine CL2.out.mono ?_)); rintro e w' ⟨rfl, rfl⟩)
                go_roundg C2.length
                case rel => exact ⟨r, A1 ++ p :: C1, q2, C2, o2, rfl, rfl, HR, Lib.hid (by rw [HE.out, HA2.out]; simp), HI2, HO2, Lib.hid rfl, rfl⟩
                case measure => exact HLT.out
        · rcases nx_cases Bs nil i with ⟨C1, q2, C2, hA2, hi2, hC1, hnx2⟩ | ⟨_, hnx2⟩
          · obtain ⟨r, hr⟩ : ∃ x, x = q2.b := ⟨_, rfl⟩
            have ho : o = some ⟨r, 0, none⟩ := by
              have := HO.out
              rw [nx_append, hnx, hnx2, ptr, ← hr] at this
              injection this with this; exact this.symm
            subst ho
            obtain ⟨m0, _, _, _⟩ := (HS.out.node (A := A1 ++ p :: (A2 ++ C1)) (T := C2) (p := q2) (by rw [← List.cons_append, HE.out, hA2]; simp)).cells
            rw [← hr] at m0
            have hbel := HB.out q2 (by rw [hA2]; simp)
            have CL1 := Lib.hid (less_any q2.k k wr)
            have CL2 := Lib.hid (less_any k q2.k wr)
            obtain ⟨x, hx⟩ : ∃ x, x = q2.k := ⟨_, rfl⟩
            rw [← hx] at m0 hbel CL1 CL2
            unfold below at hbel
            clear hA2 hi2 hC1 hnx hnx2 hr hx
            cases e1 : lt x k with
            | true => rw [e1] at hbel; cases hbel
            | false =>
              rw [e1] at CL1 hbel
              cases pass with
              | false =>
                clear hbel e1
                have hst : lst (H :: As) i = .pointer (some ⟨q, 0, none⟩) := by rw [HE.out, lst_last HP.out hall, ptr, ← HQ.out]
                have DS := HD.out.step (i := i) (by omega)
                rw [hst] at DS
                have DS2 := Lib.hid DS
                have HALL := Lib.hid hall
                clear DS hst hall
                go_wp2_with (go_at_call 40; (first | (with_reducible refine CL1.out.mono ?_) | (with_reducible refine CL2.out.mono ?_)); rintro e w' ⟨rfl, rfl⟩)
                go_roundw
                case rel => exact ⟨i, q, A1, p, A2, by omega, by go_num, rfl, HQ, HE, Lib.hid (Nat.le_of_lt HP.out), HALL, DS2⟩
                case measure => simp [intOf]
              | true =>
                cases e2 : lt k x with
                | false => rw [e2] at hbel; cases hbel
                | true =>
                  rw [e2] at CL2
                  clear hbel e1 e2
                  have hst : lst (H :: As) i = .pointer (some ⟨q, 0, none⟩) := by rw [HE.out, lst_last HP.out hall, ptr, ← HQ.out]
                  have DS := HD.out.step (i := i) (by omega)
                  rw [hst] at DS
                  have DS2 := Lib.hid DS
                  have HALL := Lib.hid hall
                  clear DS hst hall
                  go_wp2_with (go_at_call 40; (first | (with_reducible refine CL1.out.mono ?_) | (with_reducible refine CL2.out.mono ?_)); rintro e w' ⟨rfl, rfl⟩)
                  go_roundw
                  case rel => exact ⟨i, q, A1, p, A2, by omega, by go_num, rfl, HQ, HE, Lib.hid (Nat.le_of_lt HP.out), HALL, DS2⟩
                  case measure => simp [intOf]
          · have ho : o = none := by
              have := HO.out
              rw [nx_append, hnx, hnx2] at this
              unfold nil at this
              injection this with this; exact this.symm
            subst ho
            clear hnx hnx2
            have hst : lst (H :: As) i = .pointer (some ⟨q, 0, none⟩) := by rw [HE.out, lst_last HP.out hall, ptr, ← HQ.out]
            have DS := HD.out.step (i := i) (by omega)
            rw [hst] at DS
            have DS2 := Lib.hid DS
            have HALL := Lib.hid hall
            clear DS hst hall
            go_wp2_with fail
            go_roundw
            case rel => exact ⟨i, q, A1, p, A2, by omega, by go_num, rfl, HQ, HE, Lib.hid (Nat.le_of_lt HP.out), HALL, DS2⟩
            case measure => simp [intOf]
end sk
end Go.Proofs.YtnganclkjoiggaaDoor
