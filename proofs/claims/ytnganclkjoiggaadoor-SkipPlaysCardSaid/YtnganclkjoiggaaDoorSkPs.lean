/- Layer 7's own list of pairs: with, without; Clear. Conditions: those written at each theorem. -/
import Derived.Test.YtnganclkjoiggaaDoorSkNs
import Derived.Deep.AppendSrc
import Derived.Deep.Upon
import Derived.Lib.SliceRun
namespace Go.Proofs.YtnganclkjoiggaaDoor
open Go.RowKit Go.Maps Go.WideShapes
set_option linter.unusedVariables false
set_option linter.unusedSimpArgs false
namespace sk
theorem prInfo : (Tryd.prog.info? 32).map (fun i => (i.zero, i.size, i.bytes)) = some (some (.agg #[.string ⟨#[]⟩, .int .i64 0]), 2, 24) := by kernel_rfl
/-- Pairs at an address. -/
def Src (ao : Option Addr) (l : List Nd) (w : World) : Prop := (∃ ad, ao = some ad ∧ ∀ j u, (prs l)[j]? = some u → w.cell? (ad.add j) = some u) ∨ (ao = none ∧ l = [])
/-- append(s, x...), at a slice of pairs of the walk's own. -/
theorem wpList_appS {w : World} {ops : Array Oper} {rest : List Oper} {o : Oper} {a : Act} {Q : Exit → Act → World → Prop} (hgd : o.guard = none) (s x : Operand)
    (ho : o.op = .call { callee := .builtin .append, args := #[s, x], argTypes := #[26, 26] })
    (B n : Nat) (v : Value) (l p : List Nd) (hs : a.eval s = v) (hown : w.ownsRow B 32 2 v n (prs l)) (ao : Option Addr) (m c : Nat) (hm : m = p.length) (hmc : m ≤ c) (hx : a.eval x = .slice ao m c)
    (hc : Src ao p w) (hl : n + m ≤ 100000) (hB : B ≤ w.heap.size)
    (h : ∀ v' w', w'.ownsRow B 32 2 v' (n + m) (prs (l ++ p)) → w.grownBy w' v.ownBlock → wpList Tryd.prog ops Q rest (a.put o.dst v') w') :
    wpList Tryd.prog ops Q (o :: rest) a w := by
  obtain ⟨i0, hi, hz0, hz1, hz2⟩ := info_parts prInfo
  rcases hc with ⟨ad, rfl, hc⟩ | ⟨rfl, rfl⟩
  · refine wpList_append_own w hgd s x 26 ho B 32 i0 (.agg #[.string ⟨#[]⟩, .int .i64 0]) 2 24 Tryd.underlying26 hi hz0 hz1 hz2 rfl (by decide) v n (prs l) hs hown ad m c (prs p) hx (by rw [prs_len, hm]) hc (fun u hu => prs_one hu) (by unfold maxLen; omega) (by omega) hB ?_
    intro v' w' h1 h2 _
    refine h v' w' ?_ h2
    rw [prs_append]
    exact h1
  · obtain rfl : m = 0 := by simpa using hm
    obtain ⟨va, vc, rfl⟩ := row_form hown
    have hcap : n ≤ vc := by
      rcases hown.2 with ⟨hv0, hn⟩ | ⟨b, cap, cur, hv0, _, _, hc, _⟩
      · omega
      · injection hv0 with _ _ e3; omega
    have hrun : (Builtin.append_ #[26, 26] o.type #[.slice va n vc, .slice none 0 c]).run Tryd.prog w = .ok (.slice va n vc) w := by
      have e2 : i0.size = 2 := hz1
      have hf : ∀ W : World, (Builtin.firstCells i0.size 0 (.slice none 0 c)).run Tryd.prog W = .ok ([] : List Value).toArray W := fun W => by simp [Builtin.firstCells]
      exact run_append_nothing w 26 26 o.type 32 i0 Tryd.underlying26 hi va n vc hcap (.slice none 0 c) ⟨.inl ⟨_, Tryd.underlying26⟩, fun w' => by simp [Builtin.lenOf], hf w, hf w.drew, by simp, by simp⟩
    refine wpList_plain hgd fun K hK => ?_
    unfold Oper.wp execOp
    simp only [ho, resolve, invoke, builtin, Sem.run_bind, Sem.run_pure, Result.andThen_ok, List.map_toArray, List.map_cons, List.map_nil, hs, hx, hrun]
    refine hK _ _ (h _ w ?_ ⟨rfl, rfl, rfl, Nat.le_refl _, fun _ _ _ => rfl⟩)
    simpa using hown
theorem empty_row (w : World) (B : Nat) (hB : B ≤ w.heap.size) : (w.alloc (.cells #[] 32)).ownsRow B 32 2 (.slice (some ⟨w.heap.size, 0, none⟩) 0 0) 0 (prs []) :=
  World.ownsRow_lit (base := B) (e := 32) (size := 2) w #[] 0 hB (by decide) rfl
theorem prSize : ∃ i, Tryd.prog.info? 32 = some i ∧ i.size = 2 := by
  obtain ⟨i0, hi, hz0, hz1, hz2⟩ := info_parts prInfo
  exact ⟨i0, hi, hz1⟩
/-- l[:i]. -/
theorem cut_head (va : Option Addr) (n vc i : Nat) (hi : i ≤ vc) (W : World) : (Instr.sliceAt 26 (.slice va n vc) none (some (.int .i64 (i : Int))) none).run Tryd.prog W = .ok (.slice va i vc) W := by
  obtain ⟨i0, h0, h2⟩ := prSize
  have e : Tryd.prog.elem 26 = 32 := by kernel_rfl
  have hu : Tryd.prog.underlying 26 = some (.slice (Tryd.prog.elem 26)) := by rw [e]; exact Tryd.underlying26
  rw [run_sliceAt_slice W _ _ _ _ _ hu, run_slice_h W _ va n vc hu .i64 (i : Int) (by omega) (by omega), e]
  have hv : va.map (fun x => x.add (0 * 2)) = va := by
    cases va with
    | none => rfl
    | some x => cases x with | mk b o s => cases s <;> simp [Addr.add]
  simp [sizeOf, typeInfo, h0, h2, sliced, Result.andThen]
  intro _
  simpa using hv
def tl (va : Option Addr) (vc s : Nat) : Option Addr := if vc = s then va else va.map (·.add (s * 2))
/-- l[s:]. -/
theorem cut_tail (va : Option Addr) (n vc s : Nat) (hs : s ≤ n) (W : World) : (Instr.sliceAt 26 (.slice va n vc) (some (.int .i64 (s : Int))) none none).run Tryd.prog W = .ok (.slice (tl va vc s) (n - s) (vc - s)) W := by
  obtain ⟨i0, h0, h2⟩ := prSize
  have e : Tryd.prog.elem 26 = 32 := by kernel_rfl
  have hu : Tryd.prog.underlying 26 = some (.slice (Tryd.prog.elem 26)) := by rw [e]; exact Tryd.underlying26
  rw [run_sliceAt_slice W _ _ _ _ _ hu, run_slice_l W _ va n vc hu .i64 (s : Int) (by omega) (by omega), e]
  simp [sizeOf, typeInfo, h0, h2, sliced, Result.andThen, tl]
theorem row_src {B n : Nat} {va : Option Addr} {vc : Nat} {l : List Nd} {w : World} (h : w.ownsRow B 32 2 (.slice va n vc) n (prs l)) (hn : n = l.length) : n ≤ vc ∧ (∀ i, i ≤ n → Src va (l.take i) w) ∧ ∀ s, s ≤ n → Src (tl va vc s) (l.drop s) w := by
  rcases h.2 with ⟨hv0, h0⟩ | ⟨b, cap, cur, hv0, _, _, hc, _⟩
  · injection hv0 with e1 e2 e3
    subst e1 e3 h0
    have : l = [] := List.eq_nil_of_length_eq_zero hn.symm
    subst this
    refine ⟨Nat.le_refl _, fun i hi => .inr ⟨rfl, by simp⟩, fun s hs => .inr ⟨?_, by simp⟩⟩
    obtain rfl : s = 0 := by omega
    rfl
  · injection hv0 with e1 e2 e3
    subst e1 e3
    have add : ∀ o j, (⟨b, o, none⟩ : Addr).add j = ⟨b, o + j, none⟩ := fun o j => by simp [Addr.add] <;> (intro h; omega)
    have cell : ∀ j u, (prs l)[j]? = some u → w.cell? ⟨b, j, none⟩ = some u := fun j u hj => by
      have hjl : j < n * 2 := by
        have := (List.getElem?_eq_some_iff.1 hj).1
        rw [prs_len, ← hn] at this
        exact this
      rw [h.cellAt j hjl]; exact hj
    refine ⟨hc, fun i hi => .inl ⟨_, rfl, fun j u hj => ?_⟩, fun s hs => ?_⟩
    · rw [add, Nat.zero_add]
      refine cell j u ?_
      have e2 : prs l = prs (l.take i) ++ prs (l.drop i) := by rw [← prs_append, List.take_append_drop]
      rw [e2, List.getElem?_append_left (List.getElem?_eq_some_iff.1 hj).1]
      exact hj
    · have e2 : prs l = prs (l.take s) ++ prs (l.drop s) := by rw [← prs_append, List.take_append_drop]
      have e3 : (prs (l.take s)).length = s * 2 := by rw [prs_len, List.length_take]; omega
      by_cases hvc : vc = s
      · have : l.drop s = [] := by rw [List.drop_eq_nil_iff]; omega
        rw [this]
        unfold tl
        rw [if_pos hvc]
        exact .inl ⟨_, rfl, fun j u hj => by simp [prs] at hj⟩
      · unfold tl
        rw [if_neg hvc]
        refine .inl ⟨_, rfl, fun j u hj => ?_⟩
        show w.cell? (((⟨b, 0, none⟩ : Addr).add (s * 2)).add j) = some u
        rw [add, add, Nat.zero_add]
        refine cell _ u ?_
        rw [e2, List.getElem?_append_right (by omega), e3, Nat.add_sub_cancel_left]
        exact hj
theorem Src.below {ao : Option Addr} {l : List Nd} {w w' : World} (h : Src ao l w) (hb : Below w.heap.size w w') : Src ao l w' := by
  rcases h with ⟨ad, rfl, hc⟩ | h
  · refine .inl ⟨ad, rfl, fun j u hj => ?_⟩
    have := hc j u hj
    exact (hb.cell (p := ad.add j) (World.block_lt_of_cell? _ _ this)).trans this
  · exact .inr h
theorem row_mono {B B' n z : Nat} {e : TypeId} {v : Value} {xs : List Value} {w : World} (h : w.ownsRow B' e z v n xs) (hB : B ≤ B') : w.ownsRow B e z v n xs := by
  refine ⟨h.1, ?_⟩
  rcases h.2 with hn | ⟨g, cap, cur, hv, hb, rest⟩
  · exact .inl hn
  · exact .inr ⟨g, cap, cur, hv, Nat.le_trans hB hb, rest⟩
set_option maxRecDepth 100000 in
set_option maxHeartbeats 4000000 in
theorem without_any {B n : Nat} {va : Option Addr} {vc : Nat} {As Bs : List Nd} {w : World} (h : w.ownsRow B 32 2 (.slice va n vc) n (prs (As ++ Bs))) (hn : n = (As ++ Bs).length) (hl : n ≤ 50000) (k : ByteArray) (hc : Cut2 k As Bs) (hB : B ≤ w.heap.size) :
    Calls Tryd.prog 14 #[.slice va n vc, .string k] w fun e w' => ∃ va2 n2 vc2, e = .returned (.slice va2 n2 vc2) ∧ w'.ownsRow B 32 2 (.slice va2 n2 vc2) n2 (prs (As ++ (if isAt Bs k then Bs.drop 1 else Bs))) ∧ Below w.heap.size w w' := by
  have CF := Lib.hid (find_any h hn (by omega) k hc.1 hc.2)
  obtain ⟨hcap, hhd, htl⟩ := row_src h hn
  have RS : Hid (∀ w', Below w.heap.size w w' → w'.ownsRow B 32 2 (.slice va n vc) n (prs (As ++ Bs))) := Lib.hid fun w' hb => row_stay h fun g hg => hb.block g (h.lt g hg).2
  obtain ⟨la, hla⟩ : ∃ a, a = As.length := ⟨_, rfl⟩
  rw [← hla] at CF
  cases hq : isAt Bs k with
  | false =>
    rw [hq] at CF
    simp only [if_false, Bool.false_eq_true]
    clear h hn hcap hhd htl hc hla hq
    go_enter Tryd.func14, Tryd.ntmps14
    go_wp2_with fail
    refine CF.out.mono ?_
    rintro e w1 ⟨rfl, hb1⟩
    have HB1 := Lib.hid hb1
    clear hb1
    go_wp2_with fail
    go_ret
    exact ⟨va, n, vc, rfl, RS.out w1 HB1.out, HB1.out⟩
  | true =>
    rw [hq] at CF
    simp only [if_true]
    obtain ⟨b, T, hBs⟩ : ∃ b T, Bs = b :: T := by
      cases Bs with
      | nil => cases hq
      | cons b T => exact ⟨b, T, rfl⟩
    have hln : la + 1 ≤ n := by rw [hn, hla, hBs]; simp
    have s1 := fun W => cut_head va n vc la (by omega) W
    have K1 : Hid (Src va As w) := Lib.hid (by have := hhd la (by omega); rwa [hla, List.take_left] at this)
    obtain ⟨q, hqq⟩ : ∃ q, q = la + 1 := ⟨_, rfl⟩
    have hw1 : IntKind.i64.wrap ((la : Int) + 1) = (q : Int) := by rw [IntKind.wrap_i64]; omega
    have s2 := fun W => cut_tail va n vc q (by omega) W
    have K2 : Hid (Src (tl va vc q) T w) := Lib.hid (by have := htl q (by omega); rw [hBs, show List.drop q (As ++ b :: T) = T by rw [hqq, hla]; simp] at this; exact this)
    obtain ⟨t2, ht2⟩ : ∃ t, t = tl va vc q := ⟨_, rfl⟩
    obtain ⟨n2, hn2⟩ : ∃ t, t = n - q := ⟨_, rfl⟩
    obtain ⟨c2, hc2⟩ : ∃ t, t = vc - q := ⟨_, rfl⟩
    rw [← ht2] at s2 K2
    rw [← hn2, ← hc2] at s2
    have HLA := Lib.hid hla
    have HT : Hid (n2 = T.length) := Lib.hid (by rw [hn2, hn, hqq, hla, hBs]; simp; omega)
    have HD : Hid (Bs.drop 1 = T) := Lib.hid (by rw [hBs]; rfl)
    have hc1 : la ≤ vc := by omega
    have hc3 : n2 ≤ c2 := by omega
    have hz1 : 0 + la ≤ 100000 := by omega
    have hz2 : la + n2 ≤ 100000 := by omega
    clear h hn hcap hhd htl hc hla hq hBs ht2 RS hqq hn2 hc2
    go_enter Tryd.func14, Tryd.ntmps14
    go_wp2_with fail
    refine CF.out.mono ?_
    rintro e w1 ⟨rfl, hb1⟩
    have HB1 := Lib.hid hb1
    clear hb1
    have BA : Hid (Below w.heap.size w (w1.alloc (.cells #[] 32))) := Lib.hid (HB1.out.alloc HB1.out.size _)
    have E0 := Lib.hid (empty_row w1 w1.heap.size (Nat.le_refl _))
    have Z1 : Hid (w1.heap.size ≤ (w1.alloc (.cells #[] 32)).heap.size) := Lib.hid (by simp)
    go_wp2_with (first
      | (at_builtin; refine wpList_appS rfl _ _ rfl w1.heap.size 0 _ [] As rfl E0.out va la vc HLA.out hc1 rfl (K1.out.below BA.out) hz1 Z1.out ?_; intro v1 w2 hrow1 hgr1; obtain ⟨va1, vc1, rfl⟩ := row_form hrow1; have HR1 : Hid (w2.ownsRow w1.heap.size 32 2 (.slice va1 la vc1) la (prs As)) := Lib.hid (by have h := hrow1; rw [Nat.zero_add, List.nil_append] at h; exact h); have Z2 := Lib.hid (Nat.le_trans Z1.out hgr1.size); have HB2 : Hid (Below w.heap.size w w2) := Lib.hid (BA.out.grown hgr1 BA.out.size (fun g hg => Nat.le_trans HB1.out.size (E0.out.lt g hg).1)); clear hrow1 hgr1)
      | (at_builtin; refine wpList_appS rfl _ _ rfl w1.heap.size la _ As T rfl HR1.out t2 n2 c2 HT.out hc3 rfl (K2.out.below HB2.out) hz2 Z2.out ?_; intro v2 w3 hrow2 hgr2; obtain ⟨va2, vc2, rfl⟩ := row_form hrow2; have HR2 := Lib.hid hrow2; have HB3 : Hid (Below w.heap.size w w3) := Lib.hid (HB2.out.grown hgr2 HB2.out.size (fun g hg => Nat.le_trans HB1.out.size (HR1.out.lt g hg).1)); clear hrow2 hgr2))
    go_ret
    exact ⟨va2, _, vc2, rfl, by rw [HD.out]; exact row_mono HR2.out (Nat.le_trans hB HB1.out.size), HB3.out⟩
set_option maxRecDepth 100000 in
set_option maxHeartbeats 4000000 in
theorem with_any {B n : Nat} {va : Option Addr} {vc : Nat} {As Bs : List Nd} {w : World} (h : w.ownsRow B 32 2 (.slice va n vc) n (prs (As ++ Bs))) (hn : n = (As ++ Bs).length) (hl : n ≤ 50000) (k : ByteArray) (v : Int) (hc : Cut2 k As Bs) (hB : B ≤ w.heap.size) (N : Nd) (hN : N.k = k ∧ N.v = v) :
    Calls Tryd.prog 12 #[.slice va n vc, .string k, .int .i64 v] w fun e w' => ∃ va2 n2 vc2, e = .returned (.slice va2 n2 vc2) ∧ w'.ownsRow B 32 2 (.slice va2 n2 vc2) n2 (prs (As ++ N :: (if isAt Bs k then Bs.drop 1 else Bs))) ∧ Below w.heap.size w w' := by
  have CF := Lib.hid (find_any h hn (by omega) k hc.1 hc.2)
  obtain ⟨hcap, hhd, htl⟩ := row_src h hn
  obtain ⟨la, hla⟩ : ∃ a, a = As.length := ⟨_, rfl⟩
  rw [← hla] at CF
  obtain ⟨T, hT⟩ : ∃ T, T = (if isAt Bs k then Bs.drop 1 else Bs) := ⟨_, rfl⟩
  rw [← hT]
  obtain ⟨o, ho⟩ : ∃ o, o = isAt Bs k := ⟨_, rfl⟩
  rw [← ho] at CF hT
  obtain ⟨q, hqq⟩ : ∃ q, q = la + (if o then 1 else 0) := ⟨_, rfl⟩
  have hqn : q ≤ n ∧ List.drop q (As ++ Bs) = T := by
    cases o with
    | false => simp at hqq hT; subst hqq hT; exact ⟨by rw [hn, hla]; simp, by rw [hla]; simp⟩
    | true =>
      cases Bs with
      | nil => cases ho
      | cons b T2 => simp at hqq hT; subst hqq hT; exact ⟨by rw [hn, hla]; simp, by rw [hla]; simp⟩
  have s1 := fun W => cut_head va n vc la (by rw [hn] at hcap; simp at hcap; omega) W
  have K1 : Hid (Src va As w) := Lib.hid (by have := hhd la (by rw [hn, hla]; simp); rwa [hla, List.take_left] at this)
  have s2 := fun W => cut_tail va n vc q hqn.1 W
  have K2 : Hid (Src (tl va vc q) T w) := Lib.hid (by have := htl q hqn.1; rwa [hqn.2] at this)
  have hlan : la ≤ n := by rw [hn, hla]; simp
  obtain ⟨t2, ht2⟩ : ∃ t, t = tl va vc q := ⟨_, rfl⟩
  obtain ⟨n2, hn2⟩ : ∃ t, t = n - q := ⟨_, rfl⟩
  obtain ⟨c2, hc2⟩ : ∃ t, t = vc - q := ⟨_, rfl⟩
  rw [← ht2] at s2 K2
  rw [← hn2, ← hc2] at s2
  have HLA := Lib.hid hla
  have HT : Hid (n2 = T.length) := Lib.hid (by rw [hn2, ← hqn.2, List.length_drop, hn])
  have hc1 : la ≤ vc := by omega
  have hc3 : n2 ≤ c2 := by omega
  have hz1 : 0 + la ≤ 100000 := by omega
  have hz3 : la + 1 ≤ 100000 := by omega
  have hz2 : la + 1 + n2 ≤ 100000 := by omega
  have hw1 : IntKind.i64.wrap ((la : Int) + 1) = (la : Int) + 1 := by rw [IntKind.wrap_i64]; omega
  have HNN := Lib.hid hN
  have PV : prs [N] = [.string k, .int .i64 v] := by simp [prs, hN.1, hN.2]
  have HPV := Lib.hid PV
  have HQQ := Lib.hid hqq
  clear h hn hcap hhd htl hc hla ht2 hn2 hc2 hT ho hqn PV hN hlan hqq
  go_enter Tryd.func12, Tryd.ntmps12
  go_wp2_with fail
  refine CF.out.mono ?_
  rintro e w1 ⟨rfl, hb1⟩
  have HB1 := Lib.hid hb1
  clear hb1
  have BA : Hid (Below w.heap.size w (w1.alloc (.cells #[] 32))) := Lib.hid (HB1.out.alloc HB1.out.size _)
  have E0 := Lib.hid (empty_row w1 w1.heap.size (Nat.le_refl _))
  have Z1 : Hid (w1.heap.size ≤ (w1.alloc (.cells #[] 32)).heap.size) := Lib.hid (by simp)
  go_upto_region 3 with (at_builtin; refine wpList_appS rfl _ _ rfl w1.heap.size 0 _ [] As rfl E0.out va la vc HLA.out hc1 rfl (K1.out.below BA.out) hz1 Z1.out ?_; intro v1 w2 hrow1 hgr1; obtain ⟨va1, vc1, rfl⟩ := row_form hrow1; have HR1 : Hid (w2.ownsRow w1.heap.size 32 2 (.slice va1 la vc1) la (prs As)) := Lib.hid (by have h := hrow1; rw [Nat.zero_add, List.nil_append] at h; exact h); have Z2 := Lib.hid (Nat.le_trans Z1.out hgr1.size); have HB2 : Hid (Below w.heap.size w w2) := Lib.hid (BA.out.grown hgr1 BA.out.size (fun g hg => Nat.le_trans HB1.out.size (E0.out.lt g hg).1)); clear hrow1 hgr1)
  have NB := heap_alloc_new w2 (.cells #[.string k, .int .i64 v] 32)
  have SN : Hid (Src (some ⟨w2.heap.size, 0, none⟩) [N] (w2.alloc (.cells #[.string k, .int .i64 v] 32))) := Lib.hid (.inl ⟨_, rfl, fun j u hj => by
    rw [HPV.out] at hj
    have e : (⟨w2.heap.size, 0, none⟩ : Addr).add j = ⟨w2.heap.size, j, none⟩ := by simp [Addr.add] <;> (intro h; omega)
    rw [e, cell_blk NB j]
    simpa using hj⟩)
  have BA2 : Hid (Below w.heap.size w (w2.alloc (.cells #[.string k, .int .i64 v] 32))) := Lib.hid (HB2.out.alloc HB2.out.size _)
  have HR1a := Lib.hid (HR1.out.alloc (.cells #[.string k, .int .i64 v] 32))
  have Z2a : Hid (w1.heap.size ≤ (w2.alloc (.cells #[.string k, .int .i64 v] 32)).heap.size) := Lib.hid (by have := Z2.out; simp; omega)
  clear NB
  go_upto_region 4 with (at_builtin; refine wpList_appS rfl _ _ rfl w1.heap.size la _ As [N] rfl HR1a.out (some ⟨w2.heap.size, 0, none⟩) 1 1 rfl (Nat.le_refl _) rfl SN.out hz3 Z2a.out ?_; intro v3 w3 hrow3 hgr3; obtain ⟨va3, vc3, rfl⟩ := row_form hrow3; have HR3 := Lib.hid hrow3; have Z3 := Lib.hid (Nat.le_trans Z2a.out hgr3.size); have HB3 : Hid (Below w.heap.size w w3) := Lib.hid (BA2.out.grown hgr3 BA2.out.size (fun g hg => Nat.le_trans HB1.out.size (HR1a.out.lt g hg).1)); clear hrow3 hgr3)
  cases o with
  | false =>
    obtain rfl : q = la := by have := HQQ.out; simpa using this
    go_wp2_with (at_builtin; refine wpList_appS rfl _ _ rfl w1.heap.size (q + 1) _ (As ++ [N]) T rfl HR3.out t2 n2 c2 HT.out hc3 rfl (K2.out.below HB3.out) hz2 Z3.out ?_; intro v2 w4 hrow2 hgr2; obtain ⟨va2, vc2, rfl⟩ := row_form hrow2; have HR2 := Lib.hid hrow2; have HB4 : Hid (Below w.heap.size w w4) := Lib.hid (HB3.out.grown hgr2 HB3.out.size (fun g hg => Nat.le_trans HB1.out.size (HR3.out.lt g hg).1)); clear hrow2 hgr2)
    go_ret
    exact ⟨va2, _, vc2, rfl, by have h := HR2.out; rw [List.append_assoc] at h; exact row_mono h (Nat.le_trans hB HB1.out.size), HB4.out⟩
  | true =>
    have hw2 : IntKind.i64.wrap ((la : Int) + 1) = (q : Int) := by rw [hw1]; have := HQQ.out; simp at this; omega
    clear hw1
    go_wp2_with (at_builtin; refine wpList_appS rfl _ _ rfl w1.heap.size (la + 1) _ (As ++ [N]) T rfl HR3.out t2 n2 c2 HT.out hc3 rfl (K2.out.below HB3.out) hz2 Z3.out ?_; intro v2 w4 hrow2 hgr2; obtain ⟨va2, vc2, rfl⟩ := row_form hrow2; have HR2 := Lib.hid hrow2; have HB4 : Hid (Below w.heap.size w w4) := Lib.hid (HB3.out.grown hgr2 HB3.out.size (fun g hg => Nat.le_trans HB1.out.size (HR3.out.lt g hg).1)); clear hrow2 hgr2)
    go_ret
    exact ⟨va2, _, vc2, rfl, by have h := HR2.out; rw [List.append_assoc] at h; exact row_mono h (Nat.le_trans hB HB1.out.size), HB4.out⟩
end sk
end Go.Proofs.YtnganclkjoiggaaDoor
