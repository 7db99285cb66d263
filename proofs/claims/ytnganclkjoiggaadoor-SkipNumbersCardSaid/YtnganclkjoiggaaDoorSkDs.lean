/- From, Behind, Ahead, First, Last of a skip list. Conditions: those written at each theorem. -/
import Derived.Test.YtnganclkjoiggaaDoorSkCs
namespace Go.Proofs.YtnganclkjoiggaaDoor
open Go.RowKit Go.Maps Go.WideShapes
set_option linter.unusedVariables false
set_option linter.unusedSimpArgs false
namespace sk
/-- What is told of a node, or of none. -/
def tellV : Option Nd → Value
  | none => .tuple #[(.string ⟨#[]⟩), (.int .i64 0), .bool false]
  | some n => .tuple #[.string n.k, .int .i64 n.v, .bool true]
theorem tinfo : (Tryd.prog.info? 62).map (·.size) = some 3 := by kernel_rfl
theorem eql_other (w : World) {a b : Nat} {ca cb : Array Value} {ta tb : TypeId} (hne : a ≠ b) (ha : w.heap[a]? = some (.cells ca ta (0, 0))) (hb : w.heap[b]? = some (.cells cb tb (0, 0))) : (binOp .eql 59 (.pointer (some ⟨a, 0, none⟩)) (.pointer (some ⟨b, 0, none⟩))).run Tryd.prog w = .ok (.bool false) w := by
  obtain ⟨j, hj, hsz⟩ := Option.map_eq_some_iff.1 tinfo
  exact run_eql_ptr_other w Tryd.underlying59 hj (by rw [hsz]; decide) (fun e => hne (by injection e)) ha hb
theorem eql_same (w : World) (a : Nat) : (binOp .eql 59 (.pointer (some ⟨a, 0, none⟩)) (.pointer (some ⟨a, 0, none⟩))).run Tryd.prog w = .ok (.bool true) w := by
  obtain ⟨j, hj, hsz⟩ := Option.map_eq_some_iff.1 tinfo
  exact run_eql_ptr_same w ⟨a, 0, none⟩ Tryd.underlying59 hj
theorem told_nil (v : Option Addr) (w : World) : Calls Tryd.prog 39 #[.pointer v, .pointer none] w fun e w' => e = .returned (tellV none) ∧ w = w' := by
  go_enter Tryd.func39, Tryd.ntmps39
  go_wp2_with fail
  go_ret3
  exact ⟨rfl, rfl⟩
def Pt (H : Nd) (ns : List Nd) (v : Value) (o : Option Nd) : Prop := (v = .pointer none ∧ o = none) ∨ (v = ptr H ∧ o = none) ∨ (∃ p ∈ ns, v = ptr p ∧ o = some p)
set_option maxRecDepth 100000 in
set_option maxHeartbeats 2000000 in
theorem told_any {B m : Nat} {H : Nd} {mx : Int} {ns : List Nd} {w : World} (h : SkAt B m H mx ns w) {v : Value} {o : Option Nd} (hp : Pt H ns v o) :
    Calls Tryd.prog 39 #[.pointer (some ⟨m, 0, none⟩), v] w fun e w' => e = .returned (tellV o) ∧ Below w.heap.size w w' := by
  rcases hp with ⟨rfl, rfl⟩ | ⟨rfl, rfl⟩ | ⟨p, hm, rfl, rfl⟩
  · exact (told_nil _ w).mono fun e w' ⟨h1, h2⟩ => ⟨h1, h2 ▸ Below.refl _ _⟩
  · have c0 := cell_blk h.hd 0
    simp only [List.getElem?_toArray, ptr] at c0
    obtain ⟨b, hb⟩ : ∃ b, b = H.b := ⟨_, rfl⟩
    unfold ptr
    rw [← hb] at c0 ⊢
    have q1 := eql_same w b
    clear h hb
    go_enter Tryd.func39, Tryd.ntmps39
    go_wp2_with fail
    go_ret3
    exact ⟨rfl, Below.refl _ _⟩
  · obtain ⟨A, T, e⟩ := List.append_of_mem hm
    have hn : NdAt p (nx T nil) w := h.node (A := H :: A) (T := T) (by rw [e]; rfl)
    have hh : NdAt H (nx ns nil) w := h.node (A := []) (T := ns) rfl
    have hne : p.b ≠ H.b := by
      have := h.nd
      rw [e] at this
      simp only [List.flatMap_cons, own, List.flatMap_append, List.cons_append, List.nil_append, List.nodup_cons, List.mem_cons, List.mem_append, not_or] at this
      intro x
      exact this.2.1.2.2.1 x.symm
    have c0 := cell_blk h.hd 0
    simp only [List.getElem?_toArray, ptr] at c0
    have q1 := eql_other w hne hn.1 hh.1
    obtain ⟨d0, d1, _, _⟩ := hn.cells
    obtain ⟨b, hb⟩ : ∃ b, b = H.b := ⟨_, rfl⟩
    obtain ⟨a, ha⟩ : ∃ b, b = p.b := ⟨_, rfl⟩
    obtain ⟨k, hk⟩ : ∃ b, b = p.k := ⟨_, rfl⟩
    obtain ⟨x, hx⟩ : ∃ b, b = p.v := ⟨_, rfl⟩
    simp only [ptr, tellV]
    rw [← hb] at c0 q1
    rw [← ha] at q1 d0 d1 ⊢
    rw [← hk] at d0 ⊢
    rw [← hx] at d1 ⊢
    clear h hn hh hne hb ha hk hx e hm
    go_enter Tryd.func39, Tryd.ntmps39
    go_wp2_with fail
    go_quiet (fail)
    go_wp2_with fail
    go_ret3
    exact ⟨rfl, below_drewN (Below.refl _ _) _⟩
theorem pt_head (H : Nd) (As Bs : List Nd) : Pt H (As ++ Bs) (hdp Bs.head?) Bs.head? := by
  cases Bs with
  | nil => exact .inl ⟨rfl, rfl⟩
  | cons b T => exact .inr (.inr ⟨b, by simp, rfl, rfl⟩)
theorem idx16 (x0 x1 x2 x3 x4 x5 x6 x7 x8 x9 x10 x11 x12 x13 x14 x15 : Value) (w : World) : (Instr.index 66 (.agg #[x0, x1, x2, x3, x4, x5, x6, x7, x8, x9, x10, x11, x12, x13, x14, x15]) (.int .i64 0)).run Tryd.prog w = .ok x0 w := by kernel_rfl
theorem idx0 (A : List Nd) {v : Value} (h : (lasts A 0)[0]? = some v) (w : World) : (Instr.index 66 (.agg (lasts A 0)) (.int .i64 0)).run Tryd.prog w = .ok v w := by
  have e : v = lst A 0 := by
    unfold lasts at h
    rw [rowOf_at _ (by omega), if_neg (by omega)] at h
    injection h with h; exact h.symm
  rw [e]
  exact idx16 (lst A 0) (lst A 1) (lst A 2) (lst A 3) (lst A 4) (lst A 5) (lst A 6) (lst A 7) (lst A 8) (lst A 9) (lst A 10) (lst A 11) (lst A 12) (lst A 13) (lst A 14) (lst A 15) w
/-- Told of a node, wherever the walk stands. -/
theorem SkAt.tells {B m : Nat} {H : Nd} {mx : Int} {ns : List Nd} {w : World} (h : SkAt B m H mx ns w) {v : Value} {o : Option Nd} (hp : Pt H ns v o) :
    ∀ w', Below w.heap.size w w' → Calls Tryd.prog 39 #[.pointer (some ⟨m, 0, none⟩), v] w' fun e w'' => e = .returned (tellV o) ∧ Below w'.heap.size w' w'' := fun w' hb => told_any (h.under hb) hp
theorem tell_form (o : Option Nd) : ∃ k x b, tellV o = .tuple #[.string k, .int .i64 x, .bool b] := by
  cases o
  · exact ⟨⟨#[]⟩, 0, false, rfl⟩
  · exact ⟨_, _, true, rfl⟩
set_option maxRecDepth 100000 in
set_option maxHeartbeats 2000000 in
theorem first_any {B m : Nat} {H : Nd} {mx : Int} {ns : List Nd} {w : World} (h : SkAt B m H mx ns w) :
    Calls Tryd.prog 25 #[.pointer (some ⟨m, 0, none⟩)] w fun e w' => e = .returned (tellV ns.head?) ∧ Below w.heap.size w w' := by
  have CT := Lib.hid (h.tells (pt_head H [] ns))
  obtain ⟨_, _, c2, c3⟩ := (h.node (A := []) (T := ns) (p := H) rfl).cells
  have c4 := c3 0 (by have := h.hh.1; omega)
  rw [nx_zero fun x hx => (h.hh.2 x hx).1] at c4
  have h16 := h.hh.1
  rw [h16] at c2
  have c0 := cell_blk h.hd 0
  simp only [List.getElem?_toArray, ptr] at c0
  obtain ⟨q, hq⟩ : ∃ b, b = H.b := ⟨_, rfl⟩
  obtain ⟨nb, hnb⟩ : ∃ b, b = H.nb := ⟨_, rfl⟩
  rw [← hq] at c0 c2
  rw [← hnb] at c2 c4
  obtain ⟨x, hx⟩ := head_ptr ns.head?
  rw [hx] at CT c4
  obtain ⟨k, y, b, hf⟩ := tell_form ns.head?
  rw [hf] at CT ⊢
  clear h h16 hq hnb hx hf c3
  go_enter Tryd.func25, Tryd.ntmps25
  go_wp2_with (go_at_call 39; (with_reducible refine (CT.out _ (Below.refl _ _)).mono ?_); rintro e w2 ⟨rfl, hb2⟩; have HB2 := Lib.hid hb2; clear hb2)
  go_ret3
  exact ⟨rfl, HB2.out⟩
set_option maxRecDepth 100000 in
set_option maxHeartbeats 2000000 in
theorem from_any {B m : Nat} {H : Nd} {mx : Int} {As Bs : List Nd} {w : World} (h : SkAt B m H mx (As ++ Bs) w) (k : ByteArray) (hc : Cut false k As Bs) :
    Calls Tryd.prog 34 #[.pointer (some ⟨m, 0, none⟩), .string k] w fun e w' => e = .returned (tellV Bs.head?) ∧ Below w.heap.size w w' := by
  have C1 := Lib.hid (before_any h k false hc.1 hc.2)
  have CT := Lib.hid (h.tells (pt_head H As Bs))
  have CC : Hid (∀ w1, Below w.heap.size w w1 → ∃ (q nb n : Nat), (∀ w, (Instr.index 66 (.agg (lasts (H :: As) 0)) (.int .i64 0)).run Tryd.prog w = .ok (.pointer (some ⟨q, 0, none⟩)) w) ∧ w1.cell? ⟨q, 2, none⟩ = some (.slice (some ⟨nb, 0, none⟩) n n) ∧ (0 : Int) < (n : Int) ∧
    w1.cell? ⟨nb, 0, none⟩ = some (hdp Bs.head?)) := Lib.hid fun w1 hb => by
    obtain ⟨q, nb, n, A, p, _, _, _, _, h1, h2, h3, h4⟩ := (h.under hb).ahead
    exact ⟨q, nb, n, idx0 _ h1, h2, h3, h4⟩
  obtain ⟨x, hx⟩ := head_ptr Bs.head?
  rw [hx] at CT CC
  obtain ⟨kk, y, b, hf⟩ := tell_form Bs.head?
  rw [hf] at CT ⊢
  obtain ⟨L, hL⟩ : ∃ L, L = lasts (H :: As) 0 := ⟨_, rfl⟩
  rw [← hL] at C1 CC
  clear h hc hx hf hL
  go_enter Tryd.func34, Tryd.ntmps34
  go_wp2_with (first | (go_at_call 31; (with_reducible refine C1.out.mono ?_); rintro e w1 ⟨rfl, hb1⟩; have HB1 := Lib.hid hb1; obtain ⟨q, nb, n, l0, c2, n0, c4⟩ := CC.out w1 hb1; clear hb1) | (go_at_call 39; (with_reducible refine (CT.out _ HB1.out).mono ?_); rintro e w2 ⟨rfl, hb2⟩; have HB2 := Lib.hid (below_mono HB1.out hb2 (Nat.le_refl _)); clear hb2))
  go_ret3
  exact ⟨rfl, HB2.out⟩
set_option maxRecDepth 100000 in
set_option maxHeartbeats 2000000 in
theorem behind_any {B m : Nat} {H : Nd} {mx : Int} {As Bs : List Nd} {w : World} (h : SkAt B m H mx (As ++ Bs) w) (k : ByteArray) (hc : Cut true k As Bs) :
    Calls Tryd.prog 26 #[.pointer (some ⟨m, 0, none⟩), .string k] w fun e w' => e = .returned (tellV Bs.head?) ∧ Below w.heap.size w w' := by
  have C1 := Lib.hid (before_any h k true hc.1 hc.2)
  have CT := Lib.hid (h.tells (pt_head H As Bs))
  have CC : Hid (∀ w1, Below w.heap.size w w1 → ∃ (q nb n : Nat), (∀ w, (Instr.index 66 (.agg (lasts (H :: As) 0)) (.int .i64 0)).run Tryd.prog w = .ok (.pointer (some ⟨q, 0, none⟩)) w) ∧ w1.cell? ⟨q, 2, none⟩ = some (.slice (some ⟨nb, 0, none⟩) n n) ∧ (0 : Int) < (n : Int) ∧
    w1.cell? ⟨nb, 0, none⟩ = some (hdp Bs.head?)) := Lib.hid fun w1 hb => by
    obtain ⟨q, nb, n, A, p, _, _, _, _, h1, h2, h3, h4⟩ := (h.under hb).ahead
    exact ⟨q, nb, n, idx0 _ h1, h2, h3, h4⟩
  obtain ⟨x, hx⟩ := head_ptr Bs.head?
  rw [hx] at CT CC
  obtain ⟨kk, y, b, hf⟩ := tell_form Bs.head?
  rw [hf] at CT ⊢
  obtain ⟨L, hL⟩ : ∃ L, L = lasts (H :: As) 0 := ⟨_, rfl⟩
  rw [← hL] at C1 CC
  clear h hc hx hf hL
  go_enter Tryd.func26, Tryd.ntmps26
  go_wp2_with (first | (go_at_call 31; (with_reducible refine C1.out.mono ?_); rintro e w1 ⟨rfl, hb1⟩; have HB1 := Lib.hid hb1; obtain ⟨q, nb, n, l0, c2, n0, c4⟩ := CC.out w1 hb1; clear hb1) | (go_at_call 39; (with_reducible refine (CT.out _ HB1.out).mono ?_); rintro e w2 ⟨rfl, hb2⟩; have HB2 := Lib.hid (below_mono HB1.out hb2 (Nat.le_refl _)); clear hb2))
  go_ret3
  exact ⟨rfl, HB2.out⟩
/-- The last of the nodes, or the head. -/
theorem pt_last {H : Nd} {As Bs A : List Nd} {p : Nd} (e : H :: As = A ++ [p]) : Pt H (As ++ Bs) (ptr p) As.getLast? := by
  cases A with
  | nil =>
    injection e with e1 e2
    subst e1 e2
    exact .inr (.inl ⟨rfl, rfl⟩)
  | cons a A =>
    injection e with e1 e2
    subst e1 e2
    exact .inr (.inr ⟨p, by simp, rfl, by simp⟩)
set_option maxRecDepth 100000 in
set_option maxHeartbeats 2000000 in
theorem ahead_any {B m : Nat} {H : Nd} {mx : Int} {As Bs : List Nd} {w : World} (h : SkAt B m H mx (As ++ Bs) w) (k : ByteArray) (hc : Cut false k As Bs) :
    Calls Tryd.prog 28 #[.pointer (some ⟨m, 0, none⟩), .string k] w fun e w' => e = .returned (tellV As.getLast?) ∧ Below w.heap.size w w' := by
  have C1 := Lib.hid (before_any h k false hc.1 hc.2)
  obtain ⟨q, nb, n, A, p, he, hq, _, _, l00, _, _, _⟩ := h.ahead
  have l0 := idx0 _ l00
  clear l00
  have CT := Lib.hid (h.tells (pt_last (Bs := Bs) he))
  obtain ⟨kk, y, b, hf⟩ := tell_form As.getLast?
  simp only [ptr] at CT
  rw [← hq] at CT
  rw [hf] at CT ⊢
  obtain ⟨L, hL⟩ : ∃ L, L = lasts (H :: As) 0 := ⟨_, rfl⟩
  rw [← hL] at C1 l0
  clear h hc hf hL he hq
  go_enter Tryd.func28, Tryd.ntmps28
  go_wp2_with (first | (go_at_call 31; (with_reducible refine C1.out.mono ?_); rintro e w1 ⟨rfl, hb1⟩; have HB1 := Lib.hid hb1; clear hb1) | (go_at_call 39; (with_reducible refine (CT.out _ HB1.out).mono ?_); rintro e w2 ⟨rfl, hb2⟩; have HB2 := Lib.hid (below_mono HB1.out hb2 (Nat.le_refl _)); clear hb2))
  go_ret3
  exact ⟨rfl, HB2.out⟩
set_option maxRecDepth 100000 in
set_option maxHeartbeats 4000000 in
theorem last_of {B m : Nat} {H : Nd} {mx : Int} {ns : List Nd} {w : World} (h : SkAt B m H mx ns w) :
    Calls Tryd.prog 27 #[.pointer (some ⟨m, 0, none⟩)] w fun e w' => e = .returned (tellV ns.getLast?) ∧ Below w.heap.size w w' := by
  have c0 := cell_blk h.hd 0
  simp only [List.getElem?_toArray, ptr] at c0
  have HH := Lib.hid h
  have HHH : Hid (16 ≤ H.h) := Lib.hid (by have := h.hh.1; omega)
  have HH16 : Hid (∀ n ∈ ns, n.h ≤ 16) := Lib.hid fun n hn => (h.hh.2 n hn).2
  obtain ⟨hb, hHB⟩ : ∃ b, b = H.b := ⟨_, rfl⟩
  have HPB := Lib.hid hHB
  rw [← hHB] at c0
  obtain ⟨kk, y, b, hf⟩ := tell_form ns.getLast?
  rw [hf]
  have FF := Lib.hid hf
  clear h hHB hf
  go_enter Tryd.func27, Tryd.ntmps27
  go_wp2_with fail
  go_loopw [5, 6] (fun v i wr => ∃ (j q : Nat) (A1 : List Nd) (p : Nd) (A2 : List Nd), j ≤ 16 ∧ i = .int .i64 ((j : Int) - 1) ∧ v = .pointer (some ⟨q, 0, none⟩) ∧ Hid (q = p.b) ∧ Hid (H :: ns = A1 ++ p :: A2) ∧ Hid (j ≤ p.h) ∧ Hid (∀ n ∈ A2, n.h ≤ j) ∧ wr = w) (fun _ i _ => (intOf i + 1).toNat)
  case atStart => exact ⟨16, hb, [], H, ns, by omega, by go_num, rfl, HPB, Lib.hid rfl, HHH, HH16, rfl⟩
  case round =>
    obtain ⟨j, q, A1, p, A2, hj, rfl, rfl, HQ, HE, HP, HN, rfl⟩ := hrel
    clear HPB
    rcases Nat.eq_zero_or_pos j with rfl | hj0
    · have hA2 : A2 = [] := by
        cases A2 with
        | nil => rfl
        | cons n A2 =>
          have h1 := HN.out n (List.mem_cons_self ..)
          have h2 := (HH.out.high n (by rw [HE.out]; simp)).1
          omega
      have he := HE.out
      rw [hA2] at he
      have hp := pt_last (Bs := []) he
      rw [List.append_nil] at hp
      have CT := Lib.hid (HH.out.tells hp)
      simp only [ptr] at CT
      rw [← HQ.out] at CT
      rw [FF.out] at CT
      clear hA2 he hp
      go_wp2_with (go_at_call 39; (with_reducible refine (CT.out _ (Below.refl _ _)).mono ?_); rintro e w2 ⟨rfl, hb2⟩; have HB2 := Lib.hid hb2; clear hb2)
      go_ret3
      exact ⟨rfl, HB2.out⟩
    · obtain ⟨i, rfl⟩ : ∃ i, j = i + 1 := ⟨j - 1, by omega⟩
      have ei : (((i + 1 : Nat) : Int) - 1) = (i : Int) := by omega
      rw [ei]
      have i0 : (0 : Int) ≤ (i : Int) := by omega
      have i16 : (i : Int) < 16 := by omega
      have HI1 : Hid (i < p.h) := Lib.hid HP.out
      go_wp2_with fail
      go_loopg [5] A2.length (fun g v wi => ∃ (q : Nat) (A1 : List Nd) (p : Nd) (A2 : List Nd), v = .pointer (some ⟨q, 0, none⟩) ∧ Hid (q = p.b) ∧ Hid (H :: ns = A1 ++ p :: A2) ∧ Hid (i < p.h) ∧ Hid (A2.length = g) ∧ wi = wr)
      case atStart => exact ⟨q, A1, p, A2, rfl, HQ, HE, HI1, Lib.hid rfl, rfl⟩
      case round =>
        clear HE HI1 HP HQ HN
        obtain ⟨q, A1, p, A2, rfl, HQ, HE, HP, HG, rfl⟩ := hrel
        obtain ⟨_, _, n2, n3⟩ := (HH.out.node (A := A1) (T := A2) (p := p) HE.out).cells
        have n4 := n3 i HP.out
        obtain ⟨nb, hnb⟩ : ∃ x, x = p.nb := ⟨_, rfl⟩
        obtain ⟨ph, hph⟩ : ∃ x, x = p.h := ⟨_, rfl⟩
        have np : (i : Int) < (ph : Int) := by rw [hph]; have := HP.out; omega
        rw [← HQ.out, ← hnb, ← hph] at n2
        rw [← hnb] at n4
        rcases nx_cases A2 nil i with ⟨C1, q2, C2, hA2, hi2, hC1, hnx⟩ | ⟨hall, hnx⟩
        · obtain ⟨r, hr⟩ : ∃ x, x = q2.b := ⟨_, rfl⟩
          rw [hnx, ptr, ← hr] at n4
          have HR := Lib.hid hr
          have HA2 := Lib.hid hA2
          have HI2 := Lib.hid hi2
          have HLT : Hid (C2.length < gk) := Lib.hid (by rw [← HG.out, hA2]; simp; omega)
          clear n3 hnb hph hA2 hi2 hC1 hnx hr
          go_wp2_with fail
          go_roundg C2.length
          case rel => exact ⟨r, A1 ++ p :: C1, q2, C2, rfl, HR, Lib.hid (by rw [HE.out, HA2.out]; simp), HI2, Lib.hid rfl, rfl⟩
          case measure => exact HLT.out
        · rw [hnx] at n4
          unfold nil at n4
          have HALL := Lib.hid hall
          clear n3 hnb hph hnx hall
          go_wp2_with fail
          go_roundw
          case rel => exact ⟨i, q, A1, p, A2, by omega, by go_num, rfl, HQ, HE, Lib.hid (Nat.le_of_lt HP.out), HALL, by first | rfl | trivial⟩
          case measure => simp [intOf]
end sk
end Go.Proofs.YtnganclkjoiggaaDoor
