/- Layer 7's own list of pairs: find, told, looks. Conditions: those written at each theorem. -/
import Derived.Test.YtnganclkjoiggaaDoorSkJs
namespace Go.Proofs.YtnganclkjoiggaaDoor
open Go.RowKit Go.Maps Go.WideShapes
set_option linter.unusedVariables false
set_option linter.unusedSimpArgs false
namespace sk
/-- Nodes as pairs, cell by cell. -/
def prs (l : List Nd) : List Value := l.flatMap fun n => [.string n.k, .int .i64 n.v]
theorem prs_len (l : List Nd) : (prs l).length = l.length * 2 := by
  induction l with
  | nil => rfl
  | cons p l ih => simp only [prs, List.flatMap_cons, List.length_append, List.length_cons] at ih ⊢; rw [ih]; simp; omega
theorem prs_append (a b : List Nd) : prs (a ++ b) = prs a ++ prs b := by simp [prs]
theorem prs_at (l : List Nd) : ∀ i p, l[i]? = some p → (prs l)[i * 2]? = some (.string p.k) ∧ (prs l)[i * 2 + 1]? = some (.int .i64 p.v) := by
  induction l with
  | nil => intro i p h; cases h
  | cons q l ih =>
    intro i p h
    cases i with
    | zero => simp at h; subst h; exact ⟨rfl, rfl⟩
    | succ i =>
      have := ih i p (by simpa using h)
      have e : prs (q :: l) = .string q.k :: .int .i64 q.v :: prs l := rfl
      rw [e, show (i + 1) * 2 = i * 2 + 1 + 1 by omega]
      simpa using this
theorem prs_one {l : List Nd} {u : Value} (h : u ∈ prs l) : u.oneCell' = true := by
  obtain ⟨p, _, hp⟩ := List.mem_flatMap.1 h
  simp at hp
  rcases hp with rfl | rfl <;> rfl
/-- A slice of pairs: where a pair's cells are. -/
theorem pair_cells {B n : Nat} {va : Option Addr} {vc : Nat} {l : List Nd} {w : World} (h : w.ownsRow B 32 2 (.slice va n vc) n (prs l)) (hn : n = l.length) {j : Nat} {p : Nd} (hj : l[j]? = some p) :
    ∃ b, va = some ⟨b, 0, none⟩ ∧ w.cell? ⟨b, j * 2, none⟩ = some (.string p.k) ∧ w.cell? ⟨b, j * 2 + 1, none⟩ = some (.int .i64 p.v) := by
  have hlt : j < n := by rw [hn]; exact (List.getElem?_eq_some_iff.1 hj).1
  obtain ⟨b, rfl⟩ : ∃ b, va = some ⟨b, 0, none⟩ := by
    rcases h.2 with ⟨hv0, hn⟩ | ⟨b, cap, cur, hv0, _⟩
    · omega
    · injection hv0 with e1 _ _; exact ⟨b, e1⟩
  exact ⟨b, rfl, by rw [h.cellAt (j * 2) (by omega), (prs_at l j p hj).1], by rw [h.cellAt (j * 2 + 1) (by omega), (prs_at l j p hj).2]⟩
def isAt (Bs : List Nd) (k : ByteArray) : Bool := match Bs with
  | [] => false
  | b :: _ => decide (b.k = k)
set_option maxRecDepth 100000 in
set_option maxHeartbeats 4000000 in
theorem find_any {B n : Nat} {va : Option Addr} {vc : Nat} {As Bs : List Nd} {w : World} (h : w.ownsRow B 32 2 (.slice va n vc) n (prs (As ++ Bs))) (hn : n = (As ++ Bs).length) (hl : n ≤ 100000) (k : ByteArray) (hA : ∀ x ∈ As, lt x.k k = true) (hB : ∀ x ∈ Bs, lt x.k k = false) :
    Calls Tryd.prog 10 #[.slice va n vc, .string k] w fun e w' => e = .returned (.tuple #[.int .i64 As.length, .bool (isAt Bs k)]) ∧ Below w.heap.size w w' := by
  have HR := Lib.hid h
  have HN := Lib.hid hn
  have HA := Lib.hid hA
  have HB := Lib.hid hB
  have hla : As.length ≤ n := by rw [hn]; simp
  obtain ⟨la, hla2⟩ : ∃ a, a = As.length := ⟨_, rfl⟩
  rw [← hla2] at hla ⊢
  have HLA := Lib.hid hla2
  obtain ⟨q, hq⟩ : ∃ q, q = isAt Bs k := ⟨_, rfl⟩
  rw [← hq]
  have HQ := Lib.hid hq
  clear h hn hA hB hla2 hq
  go_enter Tryd.func10, Tryd.ntmps10
  go_wp2_with fail
  go_loopw [6] (fun i wr => ∃ j : Nat, j ≤ la ∧ i = .int .i64 j ∧ w = wr) (fun i _ => la - (intOf i).toNat)
  case atStart => exact ⟨0, by omega, rfl, rfl⟩
  case round =>
    obtain ⟨j, hj, rfl, rfl⟩ := hrel
    have hj0 : (0 : Int) ≤ (j : Int) := by omega
    by_cases hlt : j < la
    · have hji : (j : Int) < (n : Int) := by omega
      obtain ⟨p, hp⟩ : ∃ p, As[j]? = some p := ⟨As[j]'(by rw [← HLA.out]; exact hlt), List.getElem?_eq_getElem _⟩
      have hpn : (As ++ Bs)[j]? = some p := by rw [List.getElem?_append_left (by rw [← HLA.out]; exact hlt)]; exact hp
      obtain ⟨b, rfl, a0, _⟩ := pair_cells HR.out HN.out hpn
      have hlt2 := HA.out p (List.mem_of_getElem? hp)
      rw [sa] at hlt2
      obtain ⟨x, hx⟩ : ∃ x, x = p.k := ⟨_, rfl⟩
      rw [← hx] at a0 hlt2
      have hlt3 : Op.bytesLess x.toList k.toList = true := by rw [ByteArray.toList_eq, ByteArray.toList_eq]; exact hlt2
      clear hp hpn hlt2 hx
      go_wp2_with fail
      go_roundw
      case rel => exact ⟨j + 1, by omega, by go_num, by first | rfl | trivial⟩
      case measure => simp [intOf]; omega
    · obtain rfl : j = la := by omega
      cases hBs : Bs with
      | nil =>
        have hjn : j = n := by rw [HN.out, HLA.out, hBs]; simp
        subst hjn
        have h2 : decide ((j : Int) < (j : Int)) = false := by simp
        obtain rfl : q = false := by rw [HQ.out, hBs]; rfl
        clear hBs
        go_wp2_with fail
        go_quiet (fail)
        go_wp2_with fail
        go_ret2
        exact ⟨rfl, below_drewN (Below.refl _ _) _⟩
      | cons p T =>
        have hjn : (j : Int) < (n : Int) := by rw [HN.out, HLA.out, hBs]; simp; omega
        have hpn : (As ++ Bs)[j]? = some p := by rw [HLA.out, List.getElem?_append_right (by omega), hBs]; simp
        obtain ⟨b, rfl, a0, _⟩ := pair_cells HR.out HN.out hpn
        have hlt2 := HB.out p (by rw [hBs]; exact List.mem_cons_self ..)
        rw [sa] at hlt2
        have hq : q = decide (p.k = k) := by rw [HQ.out, hBs]; rfl
        obtain ⟨x, hx⟩ : ∃ x, x = p.k := ⟨_, rfl⟩
        rw [← hx] at a0 hlt2 hq
        have hlt3 : Op.bytesLess x.toList k.toList = false := by rw [ByteArray.toList_eq, ByteArray.toList_eq]; exact hlt2
        have heq : (x.toList == k.toList) = decide (x = k) := by
          by_cases e : x = k
          · subst e; simp
          · have : x.toList ≠ k.toList := fun e2 => e (by rw [ByteArray.toList_eq, ByteArray.toList_eq] at e2; cases x; cases k; simp only at e2; congr 1; exact Array.toList_inj.1 e2)
            rw [decide_eq_false e, beq_eq_false_iff_ne]; exact this
        rw [← hq] at heq
        have h2 : decide ((j : Int) < (n : Int)) = true := by simpa using hjn
        clear hBs hpn hlt2 hx hq
        go_wp2_with fail
        go_quiet (fail)
        go_wp2_with fail
        go_ret2
        exact ⟨rfl, below_drewN (Below.refl _ _) _⟩
set_option maxRecDepth 100000 in
set_option maxHeartbeats 4000000 in
theorem toldl_some {B n : Nat} {va : Option Addr} {vc : Nat} {l : List Nd} {w : World} (h : w.ownsRow B 32 2 (.slice va n vc) n (prs l)) (hn : n = l.length) (j : Nat) (p : Nd) (hp : l[j]? = some p) :
    Calls Tryd.prog 35 #[.slice va n vc, .int .i64 j, .string p.k, .int .i64 p.v, .bool true] w fun e w' => e = .returned (.bool true) ∧ w = w' := by
  have hlt : j < n := by rw [hn]; exact (List.getElem?_eq_some_iff.1 hp).1
  obtain ⟨b, rfl, a0, a1⟩ := pair_cells h hn hp
  obtain ⟨x, hx⟩ : ∃ x, x = p.k := ⟨_, rfl⟩
  obtain ⟨y, hy⟩ : ∃ x, x = p.v := ⟨_, rfl⟩
  rw [← hx] at a0 ⊢
  rw [← hy] at a1 ⊢
  have hji : (j : Int) < (n : Int) := by omega
  have hj0 : (0 : Int) ≤ (j : Int) := by omega
  clear h hn hp hx hy
  go_enter Tryd.func35, Tryd.ntmps35
  go_wp2_with fail
  go_ret
  exact ⟨rfl, rfl⟩
theorem toldl_none (va : Option Addr) (n vc : Nat) (i : Int) (hi : i < 0 ∨ (n : Int) ≤ i) (w : World) :
    Calls Tryd.prog 35 #[.slice va n vc, .int .i64 i, .string ⟨#[]⟩, .int .i64 0, .bool false] w fun e w' => e = .returned (.bool true) ∧ w = w' := by
  go_enter Tryd.func35, Tryd.ntmps35
  by_cases h0 : i < 0
  · go_wp2_with fail
    go_ret
    exact ⟨rfl, rfl⟩
  · have h1 : (n : Int) ≤ i := by omega
    clear hi
    go_wp2_with fail
    go_ret
    exact ⟨rfl, rfl⟩
/-- What is told of a pair of a list, held against the list. -/
theorem toldl {B n : Nat} {va : Option Addr} {vc : Nat} {l : List Nd} {w : World} (h : w.ownsRow B 32 2 (.slice va n vc) n (prs l)) (hn : n = l.length) {o : Option Nd} {kk : ByteArray} {y : Int} {b : Bool} (hf : tellV o = .tuple #[.string kk, .int .i64 y, .bool b]) {i : Int}
    (hi : (o = none ∧ (i < 0 ∨ (n : Int) ≤ i)) ∨ ∃ j : Nat, i = j ∧ l[j]? = o ∧ o ≠ none) :
    Calls Tryd.prog 35 #[.slice va n vc, .int .i64 i, .string kk, .int .i64 y, .bool b] w fun e w' => e = .returned (.bool true) ∧ w = w' := by
  rcases hi with ⟨rfl, hi⟩ | ⟨j, rfl, hj, ho⟩
  · simp only [tellV, Value.tuple.injEq, Array.mk.injEq, List.cons.injEq, Value.string.injEq, Value.int.injEq, Value.bool.injEq, true_and, and_true] at hf
    obtain ⟨rfl, rfl, rfl⟩ := hf
    exact toldl_none va n vc i hi w
  · cases o with
    | none => exact absurd rfl ho
    | some p =>
      simp only [tellV, Value.tuple.injEq, Array.mk.injEq, List.cons.injEq, Value.string.injEq, Value.int.injEq, Value.bool.injEq, true_and, and_true] at hf
      obtain ⟨rfl, rfl, rfl⟩ := hf
      exact toldl_some h hn j p hj
/-- Where the key above stands. -/
theorem behind_cut {As Bs : List Nd} {k : ByteArray} (hc : Cut false k As Bs) (so : (As ++ Bs).Pairwise fun a b => lt a.k b.k = true) :
    ∃ As' Bs', As ++ Bs = As' ++ Bs' ∧ Cut true k As' Bs' ∧ As'.length = As.length + (if isAt Bs k then 1 else 0) := by
  have e1 : ∀ n : Nd, below false k n.k = lt n.k k := fun n => by simp [below]
  cases Bs with
  | nil => exact ⟨As, [], rfl, ⟨fun n hn => by have := hc.1 n hn; rw [e1] at this; simp [below, this], by simp⟩, by simp [isAt]⟩
  | cons b T =>
    have hb := hc.2 b (List.mem_cons_self ..)
    rw [e1] at hb
    rw [List.pairwise_append, List.pairwise_cons] at so
    by_cases hk : b.k = k
    · refine ⟨As ++ [b], T, by simp, ⟨fun n hn => ?_, fun n hn => ?_⟩, by simp [isAt, hk]⟩
      · rcases List.mem_append.1 hn with hn | hn
        · have := hc.1 n hn; rw [e1] at this; simp [below, this]
        · rw [List.mem_singleton] at hn; subst hn; simp [below, hk, lt_irrefl]
      · have h1 := hc.2 n (List.mem_cons_of_mem _ hn)
        rw [e1] at h1
        have h2 := so.2.1.1 n hn
        rw [hk] at h2
        simp [below, h1, h2]
    · refine ⟨As, b :: T, rfl, ⟨fun n hn => by have := hc.1 n hn; rw [e1] at this; simp [below, this], fun n hn => ?_⟩, by simp [isAt, hk]⟩
      have h1 := hc.2 n hn
      rw [e1] at h1
      have h3 : lt k b.k = true := by
        cases h : lt k b.k with
        | true => rfl
        | false => exact absurd (lt_tri hb h) hk
      have h2 : lt k n.k = true := by
        rcases List.mem_cons.1 hn with rfl | hn
        · exact h3
        · exact lt_trans h3 (so.2.1.1 n hn)
      simp [below, h1, h2]
theorem head_at {As Bs : List Nd} {n : Nat} (hn : n = (As ++ Bs).length) : (Bs.head? = none ∧ ((As.length : Int) < 0 ∨ (n : Int) ≤ (As.length : Int))) ∨ ∃ j : Nat, (As.length : Int) = j ∧ (As ++ Bs)[j]? = Bs.head? ∧ Bs.head? ≠ none := by
  cases Bs with
  | nil => exact .inl ⟨rfl, .inr (by rw [hn]; simp)⟩
  | cons b T => exact .inr ⟨As.length, rfl, by simp, by simp⟩
theorem last_at {As Bs : List Nd} {n : Nat} (hn : n = (As ++ Bs).length) : (As.getLast? = none ∧ ((As.length : Int) - 1 < 0 ∨ (n : Int) ≤ (As.length : Int) - 1)) ∨ ∃ j : Nat, (As.length : Int) - 1 = j ∧ (As ++ Bs)[j]? = As.getLast? ∧ As.getLast? ≠ none := by
  rcases List.eq_nil_or_concat As with rfl | ⟨A, a, rfl⟩
  · exact .inl ⟨rfl, .inl (by simp)⟩
  · refine .inr ⟨A.length, by simp, by simp, by simp⟩
/-- Get, whether the key is there or not. -/
def got (Bs : List Nd) (k : ByteArray) : Int := match Bs with
  | [] => 0
  | b :: _ => if b.k = k then b.v else 0
theorem no_more {As Bs : List Nd} {k : ByteArray} (hc : Cut false k As Bs) (so : (As ++ Bs).Pairwise fun a b => lt a.k b.k = true) (hn : isAt Bs k = false) : ∀ x ∈ Bs, lt k x.k = true := by
  cases Bs with
  | nil => intro x hx; cases hx
  | cons b T =>
    have hk : b.k ≠ k := by simpa [isAt] using hn
    rw [List.pairwise_append, List.pairwise_cons] at so
    have hb := hc.2 b (List.mem_cons_self ..)
    have hb' : lt b.k k = false := by simpa [below] using hb
    have h3 : lt k b.k = true := by
      cases h : lt k b.k with
      | true => rfl
      | false => exact absurd (lt_tri hb' h) hk
    intro x hx
    rcases List.mem_cons.1 hx with rfl | hx
    · exact h3
    · exact lt_trans h3 (so.2.1.1 x hx)
theorem get_any {B m : Nat} {H : Nd} {mx : Int} {As Bs : List Nd} {w : World} (h : SkAt B m H mx (As ++ Bs) w) (k : ByteArray) (hc : Cut false k As Bs) :
    Calls Tryd.prog 29 #[.pointer (some ⟨m, 0, none⟩), .string k] w fun e w' => e = .returned (.tuple #[.int .i64 (got Bs k), .bool (isAt Bs k)]) ∧ Below w.heap.size w w' := by
  cases hi : isAt Bs k with
  | false =>
    have : got Bs k = 0 := by
      cases Bs with
      | nil => rfl
      | cons b T => have hk : b.k ≠ k := by simpa [isAt] using hi
                    simp [got, hk]
    rw [this]
    exact get_no h k hc (no_more hc h.so hi)
  | true =>
    cases Bs with
    | nil => cases hi
    | cons b T =>
      have hk : b.k = k := by simpa [isAt] using hi
      subst hk
      rw [show got (b :: T) b.k = b.v by simp [got]]
      exact get_yes h hc
set_option maxRecDepth 100000 in
set_option maxHeartbeats 4000000 in
theorem looks_any {B B2 m n : Nat} {H : Nd} {mx : Int} {va : Option Addr} {vc : Nat} {As Bs : List Nd} {w : World} (h : SkAt B m H mx (As ++ Bs) w) (hr : w.ownsRow B2 32 2 (.slice va n vc) n (prs (As ++ Bs))) (hn : n = (As ++ Bs).length) (hl : n ≤ 100000) (k : ByteArray) (hc : Cut false k As Bs) :
    Calls Tryd.prog 16 #[.pointer (some ⟨m, 0, none⟩), .slice va n vc, .string k] w fun e w' => e = .returned (.bool true) ∧ Below w.heap.size w w' := by
  have e1 : ∀ n : Nd, below false k n.k = lt n.k k := fun n => by simp [below]
  obtain ⟨As', Bs', eAB, hc2, hlen⟩ := behind_cut hc h.so
  have C0 := Lib.hid (find_any hr hn hl k (fun x hx => by rw [← e1]; exact hc.1 x hx) (fun x hx => by rw [← e1]; exact hc.2 x hx))
  have RS : Hid (∀ w', Below w.heap.size w w' → w'.ownsRow B2 32 2 (.slice va n vc) n (prs (As ++ Bs))) := Lib.hid fun w' hb => row_stay hr fun g hg => hb.block g (hr.lt g hg).2
  have C1 := Lib.hid (fun w' (hb : Below w.heap.size w w') => get_any (h.under hb) k hc)
  have C2 := Lib.hid (fun w' (hb : Below w.heap.size w w') => len_any (h.under hb))
  have C3 := Lib.hid (fun w' (hb : Below w.heap.size w w') => from_any (h.under hb) k hc)
  have C4 := Lib.hid (fun w' (hb : Below w.heap.size w w') => behind_any (As := As') (Bs := Bs') (by rw [← eAB]; exact h.under hb) k hc2)
  have C5 := Lib.hid (fun w' (hb : Below w.heap.size w w') => ahead_any (h.under hb) k hc)
  have C6 := Lib.hid (fun w' (hb : Below w.heap.size w w') => first_any (h.under hb))
  have C7 := Lib.hid (fun w' (hb : Below w.heap.size w w') => last_of (h.under hb))
  obtain ⟨k3, y3, b3, f3⟩ := tell_form Bs.head?
  obtain ⟨k4, y4, b4, f4⟩ := tell_form Bs'.head?
  obtain ⟨k5, y5, b5, f5⟩ := tell_form As.getLast?
  obtain ⟨k6, y6, b6, f6⟩ := tell_form (As ++ Bs).head?
  obtain ⟨k7, y7, b7, f7⟩ := tell_form (As ++ Bs).getLast?
  rw [f3] at C3
  rw [f4] at C4
  rw [f5] at C5
  rw [f6] at C6
  rw [f7] at C7
  obtain ⟨q, hq⟩ : ∃ q, q = isAt Bs k := ⟨_, rfl⟩
  obtain ⟨v, hv⟩ : ∃ v, v = got Bs k := ⟨_, rfl⟩
  rw [← hq, ← hv] at C1
  rw [← hq] at C0
  obtain ⟨la, hla⟩ : ∃ a, a = As.length := ⟨_, rfl⟩
  rw [← hla] at C0
  rw [← hn] at C2
  have T3 : Hid (∀ w', Below w.heap.size w w' → Calls Tryd.prog 35 #[.slice va n vc, .int .i64 la, .string k3, .int .i64 y3, .bool b3] w' fun e w'' => e = .returned (.bool true) ∧ w' = w'') := Lib.hid fun w' hb => toldl (RS.out w' hb) hn f3 (by rw [hla]; exact head_at hn)
  have T4 : Hid (∀ w', Below w.heap.size w w' → Calls Tryd.prog 35 #[.slice va n vc, .int .i64 ((la : Int) + (if q then 1 else 0)), .string k4, .int .i64 y4, .bool b4] w' fun e w'' => e = .returned (.bool true) ∧ w' = w'') := Lib.hid fun w' hb => toldl (RS.out w' hb) hn f4 (by
    have e3 : (la : Int) + (if q then 1 else 0) = (As'.length : Int) := by
      rw [hlen, hla, hq]; split <;> simp
    rw [e3, eAB]
    exact head_at (by rw [hn, eAB]))
  have T5 : Hid (∀ w', Below w.heap.size w w' → Calls Tryd.prog 35 #[.slice va n vc, .int .i64 ((la : Int) - 1), .string k5, .int .i64 y5, .bool b5] w' fun e w'' => e = .returned (.bool true) ∧ w' = w'') := Lib.hid fun w' hb => toldl (RS.out w' hb) hn f5 (by rw [hla]; exact last_at hn)
  have T6 : Hid (∀ w', Below w.heap.size w w' → Calls Tryd.prog 35 #[.slice va n vc, .int .i64 0, .string k6, .int .i64 y6, .bool b6] w' fun e w'' => e = .returned (.bool true) ∧ w' = w'') := Lib.hid fun w' hb => toldl (RS.out w' hb) hn f6 (by
    have := head_at (As := []) (Bs := As ++ Bs) (n := n) (by simpa using hn)
    simpa using this)
  have T7 : Hid (∀ w', Below w.heap.size w w' → Calls Tryd.prog 35 #[.slice va n vc, .int .i64 ((n : Int) - 1), .string k7, .int .i64 y7, .bool b7] w' fun e w'' => e = .returned (.bool true) ∧ w' = w'') := Lib.hid fun w' hb => toldl (RS.out w' hb) hn f7 (by
    have := last_at (As := As ++ Bs) (Bs := []) (n := n) (by simpa using hn)
    rw [← hn] at this
    simpa using this)
  have w1 : IntKind.i64.wrap ((la : Int) + 1) = (la : Int) + 1 := by rw [IntKind.wrap_i64]; have : la ≤ n := by rw [hla, hn]; simp
                                                                     omega
  have w2 : IntKind.i64.wrap ((la : Int) - 1) = (la : Int) - 1 := by rw [IntKind.wrap_i64]; have : la ≤ n := by rw [hla, hn]; simp
                                                                     omega
  have w3 : IntKind.i64.wrap ((n : Int) - 1) = (n : Int) - 1 := by rw [IntKind.wrap_i64]; omega
  have PC : Hid (q = true → ∃ b, va = some ⟨b, 0, none⟩ ∧ (la : Int) < (n : Int) ∧ ∀ w', Below w.heap.size w w' → w'.cell? ⟨b, la * 2 + 1, none⟩ = some (.int .i64 v)) := Lib.hid fun hqt => by
    cases hB : Bs with
    | nil => rw [hq, hB] at hqt; cases hqt
    | cons b T =>
      have hk : b.k = k := by rw [hq, hB] at hqt; simpa [isAt] using hqt
      have hj : (As ++ Bs)[la]? = some b := by rw [hla, hB]; simp
      obtain ⟨bb, hva, _, _⟩ := pair_cells hr hn hj
      refine ⟨bb, hva, by rw [hn, hla, hB]; simp; omega, fun w' hb => ?_⟩
      obtain ⟨b2, hva2, _, h2⟩ := pair_cells (RS.out w' hb) hn hj
      rw [hva] at hva2
      injection hva2 with e; injection e with e
      subst e
      rw [h2, hv, hB, got, if_pos hk]
  have PV : Hid (q = false → v = 0) := Lib.hid fun hqf => by
    rw [hv]
    cases hB : Bs with
    | nil => rfl
    | cons b T =>
      have hk : b.k ≠ k := by rw [hq, hB] at hqf; simpa [isAt] using hqf
      simp [got, hk]
  clear h hr hn hc e1 eAB hc2 hlen f3 f4 f5 f6 f7 hq hv hla RS
  go_enter Tryd.func16, Tryd.ntmps16
  go_wp2_with fail
  refine C0.out.mono ?_
  rintro e w1' ⟨rfl, hb1⟩
  have HB1 := Lib.hid hb1
  clear hb1
  go_wp2_with fail
  refine (C1.out w1' HB1.out).mono ?_
  rintro e w2' ⟨rfl, hb2⟩
  have HB2 := Lib.hid (below_mono HB1.out hb2 (Nat.le_refl _))
  clear hb2
  cases q with
  | true =>
    obtain ⟨b, rfl, hlt, hcell⟩ := PC.out rfl
    have hc0 := hcell w2' HB2.out
    have hla0 : (0 : Int) ≤ (la : Int) := by omega
    have T4' := T4.out
    simp only [if_true] at T4'
    have T4'' := Lib.hid T4'
    clear hcell PC PV T4 T4'
    go_wp2_with (first | (go_at_call 30; (with_reducible refine (C2.out _ HB2.out).mono ?_); rintro e w3' ⟨rfl, rfl⟩) | (go_at_call 34; (with_reducible refine (C3.out _ HB2.out).mono ?_); rintro e w4' ⟨rfl, hb4⟩; have HB4 := Lib.hid (below_mono HB2.out hb4 (Nat.le_refl _)); clear hb4) | (go_at_call 26; (with_reducible refine (C4.out _ HB4.out).mono ?_); rintro e w5' ⟨rfl, hb5⟩; have HB5 := Lib.hid (below_mono HB4.out hb5 (Nat.le_refl _)); clear hb5) | (go_at_call 28; (with_reducible refine (C5.out _ HB5.out).mono ?_); rintro e w6' ⟨rfl, hb6⟩; have HB6 := Lib.hid (below_mono HB5.out hb6 (Nat.le_refl _)); clear hb6) | (go_at_call 25; (with_reducible refine (C6.out _ HB6.out).mono ?_); rintro e w7' ⟨rfl, hb7⟩; have HB7 := Lib.hid (below_mono HB6.out hb7 (Nat.le_refl _)); clear hb7) | (go_at_call 27; (with_reducible refine (C7.out _ HB7.out).mono ?_); rintro e w8' ⟨rfl, hb8⟩; have HB8 := Lib.hid (below_mono HB7.out hb8 (Nat.le_refl _)); clear hb8) | (go_at_call 35; (first | (with_reducible refine (T3.out _ HB8.out).mono ?_) | (with_reducible refine (T4''.out _ HB8.out).mono ?_) | (with_reducible refine (T5.out _ HB8.out).mono ?_) | (with_reducible refine (T6.out _ HB8.out).mono ?_) | (with_reducible refine (T7.out _ HB8.out).mono ?_)); rintro e w9' ⟨rfl, rfl⟩))
    go_ret
    exact ⟨rfl, HB8.out⟩
  | false =>
    obtain rfl := PV.out rfl
    have T4' := T4.out
    simp only [if_false, Int.add_zero, Bool.false_eq_true] at T4'
    have T4'' := Lib.hid T4'
    clear PC PV T4 T4'
    go_wp2_with (first | (go_at_call 30; (with_reducible refine (C2.out _ HB2.out).mono ?_); rintro e w3' ⟨rfl, rfl⟩) | (go_at_call 34; (with_reducible refine (C3.out _ HB2.out).mono ?_); rintro e w4' ⟨rfl, hb4⟩; have HB4 := Lib.hid (below_mono HB2.out hb4 (Nat.le_refl _)); clear hb4) | (go_at_call 26; (with_reducible refine (C4.out _ HB4.out).mono ?_); rintro e w5' ⟨rfl, hb5⟩; have HB5 := Lib.hid (below_mono HB4.out hb5 (Nat.le_refl _)); clear hb5) | (go_at_call 28; (with_reducible refine (C5.out _ HB5.out).mono ?_); rintro e w6' ⟨rfl, hb6⟩; have HB6 := Lib.hid (below_mono HB5.out hb6 (Nat.le_refl _)); clear hb6) | (go_at_call 25; (with_reducible refine (C6.out _ HB6.out).mono ?_); rintro e w7' ⟨rfl, hb7⟩; have HB7 := Lib.hid (below_mono HB6.out hb7 (Nat.le_refl _)); clear hb7) | (go_at_call 27; (with_reducible refine (C7.out _ HB7.out).mono ?_); rintro e w8' ⟨rfl, hb8⟩; have HB8 := Lib.hid (below_mono HB7.out hb8 (Nat.le_refl _)); clear hb8) | (go_at_call 35; (first | (with_reducible refine (T3.out _ HB8.out).mono ?_) | (with_reducible refine (T4''.out _ HB8.out).mono ?_) | (with_reducible refine (T5.out _ HB8.out).mono ?_) | (with_reducible refine (T6.out _ HB8.out).mono ?_) | (with_reducible refine (T7.out _ HB8.out).mono ?_)); rintro e w9' ⟨rfl, rfl⟩))
    go_ret
    exact ⟨rfl, HB8.out⟩
set_option maxRecDepth 100000 in
set_option maxHeartbeats 4000000 in
theorem looks_nil (k : ByteArray) (w : World) : Calls Tryd.prog 16 #[.pointer none, .slice none 0 0, .string k] w fun e w' => e = .returned (.bool true) ∧ Below w.heap.size w w' := by
  have C0 := Lib.hid (find_any (As := []) (Bs := []) (World.ownsRow_nil w w.heap.size 32 2) rfl (by omega) k (by simp) (by simp))
  simp only [isAt, List.length_nil] at C0
  have T := Lib.hid (fun w' => toldl_none none 0 0 0 (by omega) w')
  have T2 := Lib.hid (fun w' => toldl_none none 0 0 (-1) (by omega) w')
  go_enter Tryd.func16, Tryd.ntmps16
  go_wp2_with fail
  refine C0.out.mono ?_
  rintro e w1' ⟨rfl, hb1⟩
  have HB1 := Lib.hid hb1
  clear hb1
  go_wp2_with (first | (go_at_call 29; (with_reducible refine (nget _ _).mono ?_); rintro e w3' ⟨rfl, rfl⟩) | (go_at_call 30; (with_reducible refine (nlen _).mono ?_); rintro e w3' ⟨rfl, rfl⟩) | (go_at_call 34; (with_reducible refine (nfrom _ _).mono ?_); rintro e w3' ⟨rfl, rfl⟩) | (go_at_call 26; (with_reducible refine (nbehind _ _).mono ?_); rintro e w3' ⟨rfl, rfl⟩) | (go_at_call 28; (with_reducible refine (nahead _ _).mono ?_); rintro e w3' ⟨rfl, rfl⟩) | (go_at_call 25; (with_reducible refine (nfirst _).mono ?_); rintro e w3' ⟨rfl, rfl⟩) | (go_at_call 27; (with_reducible refine (nlast _).mono ?_); rintro e w3' ⟨rfl, rfl⟩) | (go_at_call 35; (first | (with_reducible refine (T.out _).mono ?_) | (with_reducible refine (T2.out _).mono ?_)); rintro e w9' ⟨rfl, rfl⟩))
  go_ret
  exact ⟨rfl, HB1.out⟩
end sk
end Go.Proofs.YtnganclkjoiggaaDoor
