/- Layer 22: the observables that are not seen, by the document. Conditions: those written at each theorem. -/
import Derived.Test.YtidldlhhmophjaaObT
import Derived.Deep.QuietTactic
import Derived.Deep.AppendLies
namespace Go.Proofs.Ytidldlhhmophjaa
open Go.RowKit Go.PlainAid Go.Sort
set_option linter.unusedVariables false
set_option linter.unusedSimpArgs false
/-- Texts, rising. -/
def Asc (L : List ByteArray) : Prop := L.Pairwise fun a b => a.data.toList < b.data.toList
def kyl (L : List ByteArray) : List (List UInt8) := L.map (·.data.toList)
/-- A slice of texts, read only. -/
structure StA (ao : Option Addr) (c : Nat) (L : List ByteArray) (w : World) : Prop where
  cap : L.length ≤ c
  att : L ≠ [] → ∃ a, ao = some a ∧ a.block < w.heap.size ∧ ∀ (i : Nat) s, L[i]? = some s → w.cell? (a.add i) = some (.string s)
theorem StA.next {ao : Option Addr} {c : Nat} {L : List ByteArray} {w w' : World} (h : StA ao c L w) (k : Below w.heap.size w w') : StA ao c L w' :=
  ⟨h.cap, fun hn => by
    obtain ⟨a, h1, h2, h3⟩ := h.att hn
    exact ⟨a, h1, Nat.lt_of_lt_of_le h2 k.size, fun i s hi => (k.cell (p := a.add i) (by unfold Addr.add; split <;> exact h2)).trans (h3 i s hi)⟩⟩
theorem Asc.ins {L : List ByteArray} (h : Asc L) {j : Nat} (hj : j ≤ L.length) (s : ByteArray) (h1 : ∀ i u, i < j → L[i]? = some u → u.data.toList < s.data.toList) (h2 : ∀ u, L[j]? = some u → s.data.toList < u.data.toList) : Asc (L.take j ++ (s :: L.drop j)) := by
  have hs : ∀ u ∈ L.drop j, s.data.toList < u.data.toList := by
    intro u hu
    cases hd : L.drop j with
    | nil => rw [hd] at hu; cases hu
    | cons v t =>
      have hv : L[j]? = some v := by
        have := congrArg (·[0]?) hd
        simpa using this
      have hp : (v :: t).Pairwise fun a b => a.data.toList < b.data.toList := by rw [← hd]; exact List.Pairwise.sublist (List.drop_sublist j L) h
      rw [hd] at hu
      rcases List.mem_cons.1 hu with rfl | hu
      · exact h2 _ hv
      · exact List.lt_trans (h2 _ hv) ((List.pairwise_cons.1 hp).1 u hu)
  have ht : ∀ u ∈ L.take j, u.data.toList < s.data.toList := by
    intro u hu
    obtain ⟨i, hi⟩ := List.getElem?_of_mem hu
    have hlt : i < j := by have := (List.getElem?_eq_some_iff.1 hi).1; simp at this; omega
    rw [List.getElem?_take_of_lt hlt] at hi
    exact h1 i u hlt hi
  refine List.pairwise_append.2 ⟨List.Pairwise.sublist (List.take_sublist j L) h, List.pairwise_cons.2 ⟨hs, List.Pairwise.sublist (List.drop_sublist j L) h⟩, fun a ha b hb => ?_⟩
  rcases List.mem_cons.1 hb with rfl | hb
  · exact ht a ha
  · exact List.lt_trans (ht a ha) (hs b hb)
theorem ins_mem {L : List ByteArray} {j : Nat} {s : ByteArray} (u : List UInt8) : u ∈ kyl (L.take j ++ (s :: L.drop j)) ↔ u ∈ kyl L ∨ u ∈ [s.data.toList] := by
  have e : kyl L = kyl (L.take j) ++ kyl (L.drop j) := by unfold kyl; rw [← List.map_append, List.take_append_drop]
  rw [e]
  simp only [kyl, List.map_append, List.map_cons, List.mem_append, List.mem_cons, List.mem_singleton]
  grind
theorem asc_eq : ∀ {L M : List (List UInt8)}, L.Pairwise (· < ·) → M.Pairwise (· < ·) → (∀ u, u ∈ L ↔ u ∈ M) → L = M := by
  intro L M h1 h2 h
  have n1 : L.Nodup := h1.imp fun {a b} hh e => by subst e; exact List.lt_irrefl _ hh
  have n2 : M.Nodup := h2.imp fun {a b} hh e => by subst e; exact List.lt_irrefl _ hh
  exact List.Perm.eq_of_pairwise (le := fun a b => a < b) (fun a b _ _ h3 h4 => absurd (List.lt_trans h3 h4) (List.lt_irrefl _)) h1 h2 ((List.perm_ext_iff_of_nodup n1 n2).2 h)
theorem run_app0 (ty : TypeId) (sb xb : Option Addr) (n c xc : Nat) (hc : n ≤ c) (w : World) : (Builtin.append_ #[75, 75] ty #[.slice sb n c, .slice xb 0 xc]).run Try.prog w = .ok (.slice sb n c) w := by
  have hu := Try.underlying75
  cases sb <;> cases xb <;> simp [Builtin.append_, go_sem, hu, hc, Builtin.lenOf, Builtin.firstCells, storeCells, loadCells]
end Go.Proofs.Ytidldlhhmophjaa
namespace Go.Proofs.Ytidldlhhmophjaa
open Go.RowKit Go.PlainAid Go.Sort
set_option linter.unusedVariables false
set_option linter.unusedSimpArgs false
def strsV (L : List ByteArray) : List Value := L.map Value.string
theorem strsV_get {L : List ByteArray} {i : Nat} {u : Value} (h : (strsV L)[i]? = some u) : ∃ s, L[i]? = some s ∧ u = .string s := by
  unfold strsV at h
  rw [List.getElem?_map] at h
  cases hs : L[i]? with
  | none => rw [hs] at h; cases h
  | some s => rw [hs] at h; cases h; exact ⟨s, rfl, rfl⟩
theorem txtInfo : (Try.prog.info? 9).map (fun i => (i.zero, i.size, i.bytes)) = some (some (.string ⟨#[]⟩), 1, 16) := by kernel_rfl
/-- append(l, m...), at a row of the call's own: some texts, or none. -/
theorem wpList_appL {w : World} {ops : Array Oper} {rest : List Oper} {o : Oper} {a : Act} {Q : Exit → Act → World → Prop} (hgd : o.guard = none) (s x : Operand)
    (ho : o.op = .call { callee := .builtin .append, args := #[s, x], argTypes := #[75, 75] })
    (B : Nat) (so : Option Addr) (n sc : Nat) (L : List ByteArray) (hs : a.eval s = .slice so n sc) (hown : w.ownsRow B 9 1 (.slice so n sc) n (strsV L)) (hn : L.length = n) (xo : Option Addr) (m xc : Nat) (M : List ByteArray) (hM : M.length = m) (hx : a.eval x = .slice xo m xc)
    (hc : 0 < m → ∃ ad, xo = some ad ∧ ∀ (i : Nat) t, M[i]? = some t → w.cell? (ad.add i) = some (.string t)) (k : Nat) (hk : n + m = k) (hl : k ≤ 100000) (hB : B ≤ w.heap.size)
    (h : ∀ vo cap w', w'.ownsRow B 9 1 (.slice vo k cap) k (strsV (L ++ M)) → w.grownBy w' (Value.slice so n sc).ownBlock → wpList Try.prog ops Q rest (a.put o.dst (.slice vo k cap)) w') :
    wpList Try.prog ops Q (o :: rest) a w := by
  subst hk
  rcases Nat.eq_zero_or_pos m with rfl | hm
  · refine wpList_plain hgd fun K hK => ?_
    have hnc : n ≤ sc := by
      rcases hown.2 with ⟨hv, h0⟩ | ⟨g, cap, cur, hv, hb, hg, hc, hd, _⟩
      · omega
      · injection hv with _ _ e; omega
    have hr := run_app0 o.type so xo n sc xc hnc w
    unfold Oper.wp execOp
    simp only [ho, resolve, invoke, builtin, Sem.run_bind, Sem.run_pure, Result.andThen_ok, List.map_toArray, List.map_cons, List.map_nil, hs, hx, hr]
    have hM0 : M = [] := List.length_eq_zero_iff.1 hM
    refine hK _ _ (h so sc w ?_ (World.grownBy.refl w _))
    rw [hM0, List.append_nil]
    exact hown
  · obtain ⟨i, hi, hz0, hz1, hz2⟩ := info_parts txtInfo
    obtain ⟨ad, rfl, hcell⟩ := hc hm
    refine wpList_append_lies w hgd s x 75 ho B 9 i (.string ⟨#[]⟩) 1 16 Try.underlying75 hi hz0 hz1 hz2 rfl (by decide) (.slice so n sc) n (strsV L) hs hown ad m xc (strsV M) hx (by simp [strsV, hM]) (fun j u hj => ?_) (fun u hu => ?_) hm (by unfold maxLen; omega) (by omega) hB _ rfl ?_
    · obtain ⟨t, h1, rfl⟩ := strsV_get hj
      exact hcell j t h1
    · obtain ⟨t, _, rfl⟩ := List.mem_map.1 hu
      rfl
    · intro g cap w' h1 h2 h3 h4
      refine h _ cap w' ?_ h2
      unfold strsV
      rw [List.map_append]
      exact h1
theorem run_slo (ao : Option Addr) (n c j : Nat) (h1 : j ≤ c) (w : World) : (Instr.slice 75 (.slice ao n c) none (some (.int .i64 j)) none).run Try.prog w = .ok (.slice ao j c) w := by
  have hu := Try.underlying75
  have e : ∀ a : Addr, a.add 0 = a := fun a => addr_zero a
  cases ao <;> simp [Instr.slice, Instr.sliceBounds, Instr.sliceBound, go_sem, hu, asIntOf, h1, e]
theorem run_shi (ao : Option Addr) (n c j : Nat) (h1 : j ≤ n) (w : World) : (Instr.slice 75 (.slice ao n c) (some (.int .i64 j)) none none).run Try.prog w = .ok (.slice (if c = j then ao else ao.map (·.add (j * 1))) (n - j) (c - j)) w := by
  have hu := Try.underlying75
  have hz : (sizeOf 9).run Try.prog w = .ok 1 w := by kernel_rfl
  simp [Instr.slice, Instr.sliceBounds, Instr.sliceBound, go_sem, hu, asIntOf, h1, hz]
theorem pairR_made (x0 x1 x2 x3 e0 e1 : Value) (w : World) : ∀ W, (w.alloc (.cells #[x0, x1, x2, x3] 34)).alloc (.cells #[e0, e1] 58) = W → W.heap[w.heap.size]? = some (.cells #[x0, x1, x2, x3] 34 (0, 0)) ∧ W.heap[w.heap.size + 1]? = some (.cells #[e0, e1] 58 (0, 0)) ∧ Below w.heap.size w W := by
  rintro W rfl
  obtain ⟨k1, b1, s1⟩ := four_boxed x0 x1 x2 x3 34 w _ rfl
  obtain ⟨k2, b2, s2⟩ := two_made e0 e1 58 (w.alloc (.cells #[x0, x1, x2, x3] 34)) _ rfl
  exact ⟨(k2.block _ (by omega)).trans b1, by rw [← s1]; exact b2, below_mono k1 k2 (Nat.le_refl _)⟩
theorem bel_drewN {B : Nat} {a w : World} (h : Below B a w) (n : Nat) : Below B a (w.drewN n) := ⟨h.os, h.tape, h.output, h.size, h.block⟩
end Go.Proofs.Ytidldlhhmophjaa
namespace Go.Proofs.Ytidldlhhmophjaa
open Go.RowKit Go.PlainAid Go.Sort
set_option linter.unusedVariables false
set_option linter.unusedSimpArgs false
/-- What the document's needs gives. -/
def RndP (N : Nat) (K : List UInt8 → Prop) (w : World) (e : Ending) (w' : World) : Prop := (∃ (a : Option Addr) (c : Nat) (L : List ByteArray), e = .returned (.slice a L.length c) ∧ Asc L ∧ (∀ u, u ∈ kyl L ↔ K u) ∧ L.length ≤ N ∧ StA a c L w') ∧ Below w.heap.size w w'
theorem add_more (a : Addr) (j i : Nat) : (a.add (j * 1)).add i = a.add (j + i) := by unfold Addr.add; split <;> split <;> simp_all <;> omega
theorem one_txt {w : World} {g : Nat} {s : ByteArray} {T : TypeId} (h : w.heap[g]? = some (.cells #[.string s] T (0, 0))) : ∀ (i : Nat) t, [s][i]? = some t → w.cell? ((⟨g, 0, none⟩ : Addr).add i) = some (.string t) := by
  intro i t hi
  match i, hi with
  | 0, hi => cases hi; rw [addr_zero]; exact cell_blk h 0
  | i + 1, hi => simp at hi
theorem RndP.imp {N N' : Nat} {K K' : List UInt8 → Prop} {w w' : World} {e : Ending} (h : RndP N K w e w') (hN : N ≤ N') (hK : ∀ u, K u ↔ K' u) : RndP N' K' w e w' := by
  obtain ⟨⟨a, c, L, h1, h2, h3, h4, h5⟩, hb⟩ := h
  exact ⟨⟨a, c, L, h1, h2, fun u => (h3 u).trans (hK u), by omega, h5⟩, hb⟩
theorem row_st {w : World} {B : Nat} {vo : Option Addr} {k cap : Nat} {L : List ByteArray} (h : w.ownsRow B 9 1 (.slice vo k cap) k (strsV L)) (hk : L.length = k) : StA vo cap L w := by
  rcases h.2 with ⟨hv, h0⟩ | ⟨g, cp, cur, hv, hb, hg, hc, hd, hsz, htk⟩
  · injection hv with e1 e2 e3
    subst e1 e3
    have : L = [] := List.length_eq_zero_iff.1 (by omega)
    exact ⟨by rw [this]; simp, fun h => absurd this h⟩
  · injection hv with e1 e2 e3
    subst e1 e3
    refine ⟨by omega, fun _ => ⟨_, rfl, lt_of_heap hg, fun i s hi => ?_⟩⟩
    · have hlt := (List.getElem?_eq_some_iff.1 hi).1
      have ea : ∀ j, (⟨g, 0, none⟩ : Addr).add j = ⟨g, j, none⟩ := fun j => by unfold Addr.add; split <;> simp_all
      rw [ea, cell_blk hg]
      have : (strsV L)[i]? = some (.string s) := by unfold strsV; rw [List.getElem?_map, hi]; rfl
      rw [← htk, List.getElem?_take_of_lt (by omega)] at this
      simpa using this
set_option maxRecDepth 100000 in
set_option maxHeartbeats 16000000 in
theorem rneeds_any {S R : Nat → Prop} {B : Nat} (hS : ∀ b, S b → b < B) (hR : ∀ b, R b → b < B) {F : List Fx} {fa : Option Addr} {fc : Nat} {day : Int} (hF : F.length ≤ 200) (x : Xp) : ∀ (L : List ByteArray) (ao : Option Addr) (c : Nat) (bo : Option Addr) (k : Nat) (w : World), B ≤ w.heap.size → Asc L → StA ao c L w → x.args.length ≤ k → ExL S w x.args bo → FxA R fa F w → L.length + x.cnt ≤ 10000 →
    Calls Try.prog 67 #[.slice ao L.length c, exV x bo k, .agg #[.int .i64 day, .slice fa F.length fc]] w (RndP (L.length + x.cnt) (fun u => u ∈ kyl L ∨ u ∈ kys (fun s => seenF day s F) x) w) := by
  induction x using Xp.ind with
  | h x IH =>
  obtain ⟨sn, hsn⟩ : ∃ v : ByteArray → Option Fx, v = fun s => seenF day s F := ⟨_, rfl⟩
  rw [← hsn] at IH ⊢
  intro L ao c bo k w hB hA hL hk hx hfx hn
  have hc := x.cnt_eq
  have he := kys_eq sn x
  have HFX : Hid (∀ W, Below w.heap.size w W → FxA R fa F W) := Lib.hid fun W hW => hfx.stay (fun _ h => h) fun b hb => hW.block b (by have := hR b hb; omega)
  have CSN : Hid (∀ s W, Below w.heap.size w W → Calls Try.prog 37 #[.agg #[.int .i64 day, .slice fa F.length fc], .string s] W fun e w' => e = .returned (.tuple #[.int .i64 (snV (sn s)), .bool (snB (sn s))]) ∧ Below W.heap.size W w') := Lib.hid fun s W h => by
    rw [hsn]
    exact rseen_any day s W (HFX.out W h) hF fun b hb => Nat.lt_of_lt_of_le (by have := hR b hb; omega) h.size
  obtain ⟨z, hz⟩ : ∃ z, z = w.heap.size := ⟨_, rfl⟩
  obtain ⟨l, hl⟩ : ∃ l, l = x.args := ⟨_, rfl⟩
  rw [← hl] at IH hk hx hc he
  obtain ⟨m, hm⟩ : ∃ m, m = l.length := ⟨_, rfl⟩
  obtain ⟨xo, hxo⟩ : ∃ v, v = x.op := ⟨_, rfl⟩
  obtain ⟨xn, hxn⟩ : ∃ v, v = x.n := ⟨_, rfl⟩
  obtain ⟨xs, hxs⟩ : ∃ v, v = x.nm := ⟨_, rfl⟩
  obtain ⟨fm, hfm⟩ : ∃ v, v = F.length := ⟨_, rfl⟩
  obtain ⟨n, hnL⟩ : ∃ v, v = L.length := ⟨_, rfl⟩
  rw [show exV x bo k = .agg #[.int .i64 xo, .int .i64 xn, .string xs, .slice bo m k] from by rw [hm, hl, hxo, hxn, hxs]]
  rw [← hxo, ← hxs] at he
  rw [← hfm] at CSN IH ⊢
  rw [← hnL] at hn ⊢
  have CS1 := Lib.hid (CSN.out xs)
  have GA := Lib.hid (pairR_made (.int .i64 xo) (.int .i64 xn) (.string xs) (.slice bo m k) (.int .i64 day) (.slice fa fm fc) w)
  have HX : Hid (∀ W, Below w.heap.size w W → ExL S W l bo) := Lib.hid fun W hW => hx.stay (fun _ h => h) fun b hb => hW.block b (by have := hS b hb; omega)
  have HI := Lib.hid IH
  have HE := Lib.hid he
  have HA := Lib.hid (And.intro hc (And.intro hn (And.intro hB hk)))
  have HM := Lib.hid hm
  have HL : Hid (Asc L ∧ StA ao c L w ∧ n = L.length) := Lib.hid ⟨hA, hL, hnL⟩
  have hm6 : m < 10001 := by
    have := len_cnts l
    omega
  have hn6 : n < 10001 := by omega
  have hnc : n ≤ c := by have := hL.cap; omega
  clear hx IH hk hc he hn hl hm hxo hxn hxs hB hfm hsn CSN hfx hA hL hnL
  go_enter Try.func67, Try.ntmps67
  go_upto_region 1 with fail
  obtain ⟨W, hW⟩ : ∃ X, (w.alloc (.cells #[.int .i64 xo, .int .i64 xn, .string xs, .slice bo m k] 34)).alloc (.cells #[.int .i64 day, .slice fa fm fc] 58) = X := ⟨_, rfl⟩
  rw [hW, ← hz]
  obtain ⟨b1, b2, g1⟩ := GA.out W hW
  rw [← hz] at b1 b2
  have HG := Lib.hid g1
  have HB1 := Lib.hid b1
  have HB2 := Lib.hid b2
  have HZ := Lib.hid hz
  obtain ⟨c0, c1, c2, c3⟩ := quad b1
  obtain ⟨e0, e1⟩ := duo b2
  clear hW b1 b2 g1 GA hz
  go_upto_if 14 with fail
  go_cut [0] (fun v wx => ∃ (a2 : Option Addr) (n2 c2 : Nat), v = .slice a2 n2 c2 ∧ Hid ((∃ L2, L2.length = n2 ∧ Asc L2 ∧ (∀ u, u ∈ kyl L2 ↔ u ∈ kyl L ∨ u ∈ (if xo = 3 ∧ (sn xs).isNone = true then [xs.data.toList] else [])) ∧ n2 ≤ n + 1 ∧ StA a2 c2 L2 wx) ∧ Below w.heap.size w wx ∧ wx.heap[z]? = W.heap[z]? ∧ wx.heap[z + 1]? = W.heap[z + 1]?))
  case first =>
    by_cases h3 : xo = 3
    · subst h3
      obtain ⟨sv, hsv⟩ : ∃ v, v = sn xs := ⟨_, rfl⟩
      rw [← hsv] at CS1
      have HSV := Lib.hid hsv.symm
      clear hsv
      cases sv with
      | some g =>
        have CS2 : Hid (∀ V, Below w.heap.size w V → Calls Try.prog 37 #[.agg #[.int .i64 day, .slice fa fm fc], .string xs] V fun e w' => e = .returned (.tuple #[.int .i64 g.val, .bool true]) ∧ Below V.heap.size V w') := CS1
        go_wp2_with (go_at_call 37; (with_reducible refine (CS2.out _ HG.out).mono ?_); rintro e w2 ⟨rfl, hb⟩; have HB3 := Lib.hid hb; clear hb)
        go_meet
        exact ⟨ao, n, c, rfl, Lib.hid ⟨⟨L, HL.out.2.2.symm, HL.out.1, fun u => by rw [HSV.out]; simp, by omega, HL.out.2.1.next (below_mono HG.out HB3.out (Nat.le_refl _))⟩, below_mono HG.out HB3.out (Nat.le_refl _), HB3.out.block z (lt_of_heap HB1.out), HB3.out.block (z + 1) (lt_of_heap HB2.out)⟩⟩
      | none =>
        have CS2 : Hid (∀ V, Below w.heap.size w V → Calls Try.prog 37 #[.agg #[.int .i64 day, .slice fa fm fc], .string xs] V fun e w' => e = .returned (.tuple #[.int .i64 0, .bool false]) ∧ Below V.heap.size V w') := CS1
        go_upto_region 5 with (go_at_call 37; (with_reducible refine (CS2.out _ HG.out).mono ?_); rintro e w2 ⟨rfl, hb⟩; have HB3 := Lib.hid hb; clear hb c0 c1 c2 c3 e0 e1)
        have HW2 : Hid (Below w.heap.size w w2 ∧ w2.heap[z]? = some (.cells #[.int .i64 3, .int .i64 xn, .string xs, .slice bo m k] 34 (0, 0)) ∧ w2.heap[z]? = W.heap[z]? ∧ w2.heap[z + 1]? = W.heap[z + 1]? ∧ z + 1 < w2.heap.size) := Lib.hid ⟨below_mono HG.out HB3.out (Nat.le_refl _), (HB3.out.block z (lt_of_heap HB1.out)).trans HB1.out, HB3.out.block z (lt_of_heap HB1.out), HB3.out.block (z + 1) (lt_of_heap HB2.out), Nat.lt_of_lt_of_le (lt_of_heap HB2.out) HB3.out.size⟩
        clear CS1 CS2
        go_loopw [9] (fun v wr => ∃ j : Nat, j ≤ n ∧ v = .int .i64 j ∧ Hid ((∀ (i : Nat) u, i < j → L[i]? = some u → u.data.toList < xs.data.toList) ∧ Below w2.heap.size w2 wr)) (fun v _ => n - (intOf v).toNat)
        case atStart => exact ⟨0, by omega, rfl, Lib.hid ⟨fun i u h => by omega, Below.refl _ _⟩⟩
        case round =>
          obtain ⟨j, hj, rfl, HR⟩ := hrel
          have HWR : Hid (Below w.heap.size w wr ∧ StA ao c L wr) := Lib.hid ⟨below_mono HW2.out.1 HR.out.2 (Nat.le_refl _), HL.out.2.1.next (below_mono HW2.out.1 HR.out.2 (Nat.le_refl _))⟩
          obtain ⟨c0, c1, c2, c3⟩ := quad ((HR.out.2.block z (lt_of_heap HW2.out.2.1)).trans HW2.out.2.1)
          by_cases hlt : j < n
          · obtain ⟨u, hu⟩ : ∃ y, L[j]? = some y := ⟨_, List.getElem?_eq_getElem (by rw [← HL.out.2.2]; exact hlt)⟩
            obtain ⟨a, rfl, hab, hcell⟩ := HWR.out.2.att (by intro h; rw [h] at hu; cases hu)
            have hcu := hcell j u hu
            have i1 : (j : Int) < (n : Int) := by omega
            have i2 : (0 : Int) ≤ (j : Int) := by omega
            cases hbl : Op.bytesLess u.toList xs.toList with
            | true =>
              have HLT : Hid (∀ (i : Nat) u, i < j + 1 → L[i]? = some u → u.data.toList < xs.data.toList) := Lib.hid fun i v hi hv => by
                rcases Nat.lt_succ_iff_lt_or_eq.1 hi with h | rfl
                · exact HR.out.1 i v h hv
                · rw [hu] at hv
                  cases hv
                  rw [bytesLess_eq] at hbl
                  simpa [ByteArray.toList_eq] using of_decide_eq_true hbl
              clear hu hab hcell
              go_wp2_with fail
              go_quiet (fail)
              go_wp2_with fail
              go_roundw
              case rel => exact ⟨j + 1, by omega, by go_num, Lib.hid ⟨HLT.out, bel_drewN HR.out.2 _⟩⟩
              case measure => simp [intOf]; omega
            | false =>
              have HBL := Lib.hid hbl
              have HU := Lib.hid hu
              clear hu hab hcell
              go_wp2_with fail
              go_quiet (fail)
              obtain ⟨W5, hW5⟩ : ∃ X, wr.drewN nq = X := ⟨_, rfl⟩
              rw [hW5]
              have HB5 : Hid (Below w2.heap.size w2 W5) := Lib.hid (hW5 ▸ bel_drewN HR.out.2 _)
              clear hW5 c0 c1 c2 c3
              obtain ⟨c0, c1, c2, c3⟩ := quad ((HB5.out.block z (lt_of_heap HW2.out.2.1)).trans HW2.out.2.1)
              have hcu : W5.cell? (a.add j) = some (.string u) := by
                obtain ⟨a', h1, _, h3⟩ := (HL.out.2.1.next (below_mono HW2.out.1 HB5.out (Nat.le_refl _))).att (by intro h; have := HU.out; rw [h] at this; cases this)
                cases h1
                exact h3 j u HU.out
              have hjn : ((j : Int) == (n : Int)) = false := by simp; omega
              by_cases hux : u = xs
              · subst hux
                go_wp2_with fail
                go_quiet (fail)
                go_wp2_with fail
                go_meet
                refine ⟨some a, n, c, rfl, Lib.hid ⟨⟨L, HL.out.2.2.symm, HL.out.1, fun v => ?_, by omega, HL.out.2.1.next (below_mono HW2.out.1 (bel_drewN HB5.out _) (Nat.le_refl _))⟩, below_mono HW2.out.1 (bel_drewN HB5.out _) (Nat.le_refl _), ((bel_drewN HB5.out _).block z (by have := HW2.out.2.2.2.2; omega)).trans HW2.out.2.2.1, ((bel_drewN HB5.out _).block (z + 1) HW2.out.2.2.2.2).trans HW2.out.2.2.2.1⟩⟩
                rw [HSV.out]
                have : u.data.toList ∈ kyl L := List.mem_map.2 ⟨u, List.mem_of_getElem? HU.out, rfl⟩
                constructor
                · exact .inl
                · rintro (h | h)
                  · exact h
                  · simp at h; rw [h]; exact this
              · have hne : (u.toList == xs.toList) = false := by
                  cases hh : (u.toList == xs.toList) with
                  | false => rfl
                  | true =>
                    have e := eq_of_beq hh
                    rw [ByteArray.toList_eq, ByteArray.toList_eq] at e
                    exfalso
                    apply hux
                    cases u; cases xs
                    exact congrArg _ (Array.toList_inj.1 e)
                go_wp2_with fail
                go_quiet (fail)
                go_upto_region 9 with fail
                obtain ⟨W6, hW6⟩ : ∃ X, W5.drewN nq = X := ⟨_, rfl⟩
                rw [hW6]
                have HB6 : Hid (Below w2.heap.size w2 W6) := Lib.hid (hW6 ▸ bel_drewN HB5.out _)
                clear hW6 c0 c1 c2 c3
                obtain ⟨c0, c1, c2, c3⟩ := quad ((HB6.out.block z (lt_of_heap HW2.out.2.1)).trans HW2.out.2.1)
                clear hne hcu
                have HJ : Hid (j < n ∧ n ≤ c ∧ n < 10001) := Lib.hid ⟨hlt, hnc, hn6⟩
                have hs1 := run_slo (some a) n c j (by omega)
                have hs2 := run_shi (some a) n c j (by omega)
                obtain ⟨x2, hx2⟩ : ∃ v, v = (if c = j then (some a) else Option.map (·.add (j * 1)) (some a)) := ⟨_, rfl⟩
                have hs3 : ∀ W, (Instr.slice 75 (.slice (some a) n c) (some (.int .i64 j)) none none).run Try.prog W = .ok (.slice x2 (n - j) (c - j)) W := fun W => by rw [hs2, hx2]
                have HW6 : Hid (Below w.heap.size w W6) := Lib.hid (below_mono HW2.out.1 HB6.out (Nat.le_refl _))
                have HC1 : Hid (∀ V, Below W6.heap.size W6 V → 0 < j → ∃ ad, (some a) = some ad ∧ ∀ (i : Nat) t, (L.take j)[i]? = some t → V.cell? (ad.add i) = some (.string t)) := Lib.hid fun V hV h0 => by
                  obtain ⟨ad, h1, _, h3⟩ := (HL.out.2.1.next (below_mono HW6.out hV (Nat.le_refl _))).att (by intro e; have := HL.out.2.2; rw [e] at this; simp at this; omega)
                  refine ⟨ad, h1, fun i t hi => h3 i t ?_⟩
                  have := (List.getElem?_eq_some_iff.1 hi).1
                  rwa [List.getElem?_take_of_lt (by simp at this; omega)] at hi
                have HC2 : Hid (∀ V, Below W6.heap.size W6 V → 0 < n - j → ∃ ad, x2 = some ad ∧ ∀ (i : Nat) t, (L.drop j)[i]? = some t → V.cell? (ad.add i) = some (.string t)) := Lib.hid fun V hV h0 => by
                  obtain ⟨ad, h1, _, h3⟩ := (HL.out.2.1.next (below_mono HW6.out hV (Nat.le_refl _))).att (by intro e; have := HL.out.2.2; rw [e] at this; simp at this; omega)
                  refine ⟨ad.add (j * 1), by rw [hx2, if_neg (by omega), h1]; rfl, fun i t hi => ?_⟩
                  rw [List.getElem?_drop] at hi
                  have e : (ad.add (j * 1)).add i = ad.add (j + i) := add_more ad j i
                  rw [e]
                  exact h3 _ t hi
                have HLT : Hid ((L.take j).length = j ∧ (L.drop j).length = n - j) := Lib.hid ⟨by rw [List.length_take, ← HL.out.2.2]; omega, by rw [List.length_drop, ← HL.out.2.2]⟩
                clear hs2 hx2 hjn hlt i1 i2 hbl hnc hn6 hm6 hj
                go_upto_region 10 with (at_builtin; refine wpList_appL rfl _ _ rfl W6.heap.size none 0 0 [] rfl (World.ownsRow_nil _ _ _ 1) rfl (some a) j c (L.take j) HLT.out.1 rfl (HC1.out W6 (Below.refl _ _)) j (by have := HJ.out; have := HJ.out; omega) (by have := HJ.out; have := HJ.out; omega) (Nat.le_refl _) ?_; intro v1 k1 w7 hr1 hg1; have HR1 := Lib.hid hr1; have HB7 : Hid (Below W6.heap.size W6 w7) := Lib.hid ((Below.refl _ _).grown hg1 (Nat.le_refl _) (fun g hg => by cases hg)); clear hr1 hg1)
                clear c0 c1 c2 c3
                obtain ⟨c0, c1, c2, c3⟩ := quad ((HB7.out.block z (Nat.lt_of_lt_of_le (lt_of_heap HW2.out.2.1) HB6.out.size)).trans ((HB6.out.block z (lt_of_heap HW2.out.2.1)).trans HW2.out.2.1))
                have HB8 : Hid (∀ o, Below W6.heap.size W6 (w7.alloc o)) := Lib.hid fun o => HB7.out.alloc HB7.out.size o
                have HR1A : Hid (∀ o, (w7.alloc o).ownsRow W6.heap.size 9 1 (.slice v1 j k1) j (strsV ([] ++ L.take j))) := Lib.hid fun o => row_stay HR1.out fun g hg => ((Below.refl w7.heap.size w7).alloc (Nat.le_refl _) o).block g (row_ltN HR1.out hg).1
                go_upto_region 11 with (at_builtin; refine wpList_appL rfl _ _ rfl W6.heap.size v1 j k1 ([] ++ L.take j) rfl (HR1A.out _) HLT.out.1 (some ⟨w7.heap.size, 0, none⟩) 1 1 [xs] rfl (by rfl) (fun _ => ⟨_, rfl, one_txt (heap_alloc_new w7 _)⟩) (j + 1) rfl (by have := HJ.out; have := HJ.out; omega) (HB8.out _).size ?_; intro v2 k2 w9 hr2 hg2; have HR2 := Lib.hid hr2; have HB9 : Hid (Below W6.heap.size W6 w9) := Lib.hid ((HB8.out _).grown hg2 (HB8.out _).size (fun g hg => (row_ltN HR1.out hg).2)); clear hr2 hg2)
                go_upto_region 12 with (at_builtin; refine wpList_appL rfl _ _ rfl W6.heap.size v2 (j + 1) k2 (([] ++ L.take j) ++ [xs]) rfl HR2.out (by simp [HLT.out.1]) x2 (n - j) (c - j) (L.drop j) HLT.out.2 rfl (HC2.out _ HB9.out) (n + 1) (by have := HJ.out; have := HJ.out; omega) (by have := HJ.out; have := HJ.out; omega) HB9.out.size ?_; intro v3 k3 w10 hr3 hg3; have HR3 := Lib.hid hr3; have HB10 : Hid (Below W6.heap.size W6 w10) := Lib.hid (HB9.out.grown hg3 HB9.out.size (fun g hg => (row_ltN HR2.out hg).2)); clear hr3 hg3)
                go_meet
                have hfin : (([] ++ L.take j) ++ [xs]) ++ L.drop j = L.take j ++ (xs :: L.drop j) := by simp
                refine ⟨v3, n + 1, k3, rfl, Lib.hid ⟨⟨L.take j ++ (xs :: L.drop j), by simp [HLT.out.1, HLT.out.2]; have := HJ.out; omega, HL.out.1.ins (by rw [← HL.out.2.2]; have := HJ.out; omega) xs HR.out.1 ?_, fun u => by rw [HSV.out, ins_mem]; simp, Nat.le_refl _, by rw [← hfin]; exact row_st HR3.out (by simp [HLT.out.1, HLT.out.2]; have := HJ.out; omega)⟩, below_mono HW6.out HB10.out (Nat.le_refl _), (HB10.out.block z (by have := HW2.out.2.2.2.2; have := HB6.out.size; have := HJ.out; omega)).trans ((HB6.out.block z (by have := HW2.out.2.2.2.2; have := HJ.out; omega)).trans HW2.out.2.2.1), (HB10.out.block (z + 1) (by have := HW2.out.2.2.2.2; have := HB6.out.size; have := HJ.out; omega)).trans ((HB6.out.block (z + 1) HW2.out.2.2.2.2).trans HW2.out.2.2.2.1)⟩⟩
                intro v hv
                have : v = u := by have := HU.out; rw [hv] at this; cases this; rfl
                subst this
                have h1 := HBL.out
                rw [bytesLess_eq] at h1
                have h2 := of_decide_eq_false h1
                rw [ByteArray.toList_eq, ByteArray.toList_eq] at h2
                refine Std.lt_of_le_of_ne (List.not_lt.1 h2) fun e => hux ?_
                cases v; cases xs
                exact congrArg _ (Array.toList_inj.1 e.symm)
          · obtain rfl : j = n := by omega
            go_wp2_with fail
            go_quiet (fail)
            go_wp2_with fail
            obtain ⟨W5, hW5⟩ : ∃ X, wr.drewN nq = X := ⟨_, rfl⟩
            rw [hW5]
            have HB5 : Hid (Below w2.heap.size w2 W5) := Lib.hid (hW5 ▸ bel_drewN HR.out.2 _)
            clear hW5 c0 c1 c2 c3
            obtain ⟨c0, c1, c2, c3⟩ := quad ((HB5.out.block z (lt_of_heap HW2.out.2.1)).trans HW2.out.2.1)
            go_quiet (fail)
            go_upto_region 9 with fail
            obtain ⟨W6, hW6⟩ : ∃ X, W5.drewN nq = X := ⟨_, rfl⟩
            rw [hW6]
            have HB6 : Hid (Below w2.heap.size w2 W6) := Lib.hid (hW6 ▸ bel_drewN HB5.out _)
            clear hW6 c0 c1 c2 c3
            obtain ⟨c0, c1, c2, c3⟩ := quad ((HB6.out.block z (lt_of_heap HW2.out.2.1)).trans HW2.out.2.1)
            have HJ : Hid (j ≤ j ∧ j ≤ c ∧ j < 10001) := Lib.hid ⟨Nat.le_refl _, hnc, hn6⟩
            have hs1 := run_slo ao j c j (by omega)
            have hs2 := run_shi ao j c j (by omega)
            obtain ⟨x2, hx2⟩ : ∃ v, v = (if c = j then ao else Option.map (·.add (j * 1)) ao) := ⟨_, rfl⟩
            have hs3 : ∀ W, (Instr.slice 75 (.slice ao j c) (some (.int .i64 j)) none none).run Try.prog W = .ok (.slice x2 0 (c - j)) W := fun W => by rw [hs2, hx2, Nat.sub_self]
            have HW6 : Hid (Below w.heap.size w W6) := Lib.hid (below_mono HW2.out.1 HB6.out (Nat.le_refl _))
            have HC1 : Hid (∀ V, Below W6.heap.size W6 V → 0 < j → ∃ ad, ao = some ad ∧ ∀ (i : Nat) t, (L.take j)[i]? = some t → V.cell? (ad.add i) = some (.string t)) := Lib.hid fun V hV h0 => by
              obtain ⟨ad, h1, _, h3⟩ := (HL.out.2.1.next (below_mono HW6.out hV (Nat.le_refl _))).att (by intro e; have := HL.out.2.2; rw [e] at this; simp at this; omega)
              refine ⟨ad, h1, fun i t hi => h3 i t ?_⟩
              have := (List.getElem?_eq_some_iff.1 hi).1
              rwa [List.getElem?_take_of_lt (by simp at this; omega)] at hi
            have HC2 : Hid (∀ V, Below W6.heap.size W6 V → 0 < 0 → ∃ ad, x2 = some ad ∧ ∀ (i : Nat) t, (L.drop j)[i]? = some t → V.cell? (ad.add i) = some (.string t)) := Lib.hid fun V hV h0 => absurd h0 (Nat.lt_irrefl _)
            have HLT : Hid ((L.take j).length = j ∧ (L.drop j).length = 0) := Lib.hid ⟨by rw [List.length_take, ← HL.out.2.2]; omega, by rw [List.length_drop, ← HL.out.2.2, Nat.sub_self]⟩
            clear hs2 hx2 hnc hn6 hm6 hlt hj
            go_upto_region 10 with (at_builtin; refine wpList_appL rfl _ _ rfl W6.heap.size none 0 0 [] rfl (World.ownsRow_nil _ _ _ 1) rfl ao j c (L.take j) HLT.out.1 rfl (HC1.out W6 (Below.refl _ _)) j (by have := HJ.out; have := HJ.out; omega) (by have := HJ.out; have := HJ.out; omega) (Nat.le_refl _) ?_; intro v1 k1 w7 hr1 hg1; have HR1 := Lib.hid hr1; have HB7 : Hid (Below W6.heap.size W6 w7) := Lib.hid ((Below.refl _ _).grown hg1 (Nat.le_refl _) (fun g hg => by cases hg)); clear hr1 hg1)
            clear c0 c1 c2 c3
            obtain ⟨c0, c1, c2, c3⟩ := quad ((HB7.out.block z (Nat.lt_of_lt_of_le (lt_of_heap HW2.out.2.1) HB6.out.size)).trans ((HB6.out.block z (lt_of_heap HW2.out.2.1)).trans HW2.out.2.1))
            have HB8 : Hid (∀ o, Below W6.heap.size W6 (w7.alloc o)) := Lib.hid fun o => HB7.out.alloc HB7.out.size o
            have HR1A : Hid (∀ o, (w7.alloc o).ownsRow W6.heap.size 9 1 (.slice v1 j k1) j (strsV ([] ++ L.take j))) := Lib.hid fun o => row_stay HR1.out fun g hg => ((Below.refl w7.heap.size w7).alloc (Nat.le_refl _) o).block g (row_ltN HR1.out hg).1
            go_upto_region 11 with (at_builtin; refine wpList_appL rfl _ _ rfl W6.heap.size v1 j k1 ([] ++ L.take j) rfl (HR1A.out _) HLT.out.1 (some ⟨w7.heap.size, 0, none⟩) 1 1 [xs] rfl (by rfl) (fun _ => ⟨_, rfl, one_txt (heap_alloc_new w7 _)⟩) (j + 1) rfl (by have := HJ.out; have := HJ.out; omega) (HB8.out _).size ?_; intro v2 k2 w9 hr2 hg2; have HR2 := Lib.hid hr2; have HB9 : Hid (Below W6.heap.size W6 w9) := Lib.hid ((HB8.out _).grown hg2 (HB8.out _).size (fun g hg => (row_ltN HR1.out hg).2)); clear hr2 hg2)
            go_upto_region 12 with (at_builtin; refine wpList_appL rfl _ _ rfl W6.heap.size v2 (j + 1) k2 (([] ++ L.take j) ++ [xs]) rfl HR2.out (by simp [HLT.out.1]) x2 0 (c - j) (L.drop j) HLT.out.2 rfl (HC2.out _ HB9.out) (j + 1) (by have := HJ.out; have := HJ.out; omega) (by have := HJ.out; have := HJ.out; omega) HB9.out.size ?_; intro v3 k3 w10 hr3 hg3; have HR3 := Lib.hid hr3; have HB10 : Hid (Below W6.heap.size W6 w10) := Lib.hid (HB9.out.grown hg3 HB9.out.size (fun g hg => (row_ltN HR2.out hg).2)); clear hr3 hg3)
            go_meet
            have hfin : (([] ++ L.take j) ++ [xs]) ++ L.drop j = L.take j ++ (xs :: L.drop j) := by simp
            refine ⟨v3, j + 1, k3, rfl, Lib.hid ⟨⟨L.take j ++ (xs :: L.drop j), by simp [HLT.out.1, HLT.out.2], HL.out.1.ins (by rw [← HL.out.2.2]; have := HJ.out; omega) xs HR.out.1 ?_, fun u => by rw [HSV.out, ins_mem]; simp, Nat.le_refl _, by rw [← hfin]; exact row_st HR3.out (by simp [HLT.out.1, HLT.out.2])⟩, below_mono HW6.out HB10.out (Nat.le_refl _), (HB10.out.block z (by have := HW2.out.2.2.2.2; have := HB6.out.size; have := HJ.out; omega)).trans ((HB6.out.block z (by have := HW2.out.2.2.2.2; have := HJ.out; omega)).trans HW2.out.2.2.1), (HB10.out.block (z + 1) (by have := HW2.out.2.2.2.2; have := HB6.out.size; have := HJ.out; omega)).trans ((HB6.out.block (z + 1) HW2.out.2.2.2.2).trans HW2.out.2.2.2.1)⟩⟩
            intro v hv
            have := (List.getElem?_eq_some_iff.1 hv).1
            have := HL.out.2.2
            omega
    · go_wp2_with fail
      go_meet
      exact ⟨ao, n, c, rfl, Lib.hid ⟨⟨L, HL.out.2.2.symm, HL.out.1, fun u => by simp [h3], by omega, HL.out.2.1.next HG.out⟩, HG.out, rfl, rfl⟩⟩
  case rest =>
    obtain ⟨la, ln, lc, rfl, HCU⟩ := hcut
    clear c0 c1 c2 c3 e0 e1 CS1
    have c3 : wc.cell? ⟨z, 3, none⟩ = some (.slice bo m k) := cell_blk (HCU.out.2.2.1.trans HB1.out) 3
    obtain ⟨K0, hk0⟩ : ∃ v : List (List UInt8), v = (if xo = 3 ∧ (sn xs).isNone = true then [xs.data.toList] else []) := ⟨_, rfl⟩
    rw [← hk0] at HCU
    have HK0 := Lib.hid hk0
    clear hk0
    go_upto_region 13 with fail
    clear c3
    go_loopw [0, 11] (fun v i wr => ∃ (j : Nat) (va : Option Addr) (vn vc : Nat), j ≤ m ∧ v = .slice va vn vc ∧ i = .int .i64 j ∧ Hid ((∃ L3, L3.length = vn ∧ Asc L3 ∧ (∀ u, u ∈ kyl L3 ↔ (u ∈ kyl L ∨ u ∈ K0) ∨ u ∈ kyss sn (l.take j)) ∧ vn ≤ n + 1 + Xp.cnt.cnts (l.take j) ∧ StA va vc L3 wr) ∧ Below w.heap.size w wr ∧ wr.heap[z]? = some (.cells #[.int .i64 xo, .int .i64 xn, .string xs, .slice bo m k] 34 (0, 0)) ∧ wr.heap[z + 1]? = some (.cells #[.int .i64 day, .slice fa fm fc] 58 (0, 0)))) (fun _ i _ => m - (intOf i).toNat)
    case atStart =>
      refine ⟨0, la, ln, lc, by omega, rfl, rfl, Lib.hid ⟨?_, HCU.out.2.1, HCU.out.2.2.1.trans HB1.out, HCU.out.2.2.2.trans HB2.out⟩⟩
      obtain ⟨L2, h1, h2, h3, h4, h5⟩ := HCU.out.1
      exact ⟨L2, h1, h2, fun u => by rw [h3]; simp [kyss, Xp.mis.miss], by simp [Xp.cnt.cnts]; omega, h5⟩
    case round =>
      obtain ⟨j, va, vn, vc, hj, rfl, rfl, HR⟩ := hrel
      by_cases hlt : j < m
      · obtain ⟨y, hy⟩ : ∃ y, l[j]? = some y := ⟨_, List.getElem?_eq_getElem (by rw [← HM.out]; exact hlt)⟩
        obtain ⟨a, co, ck, rfl, hsa, hck, ⟨y0, y1, y2, y3⟩, hyl⟩ := (HX.out wr HR.out.2.1).get hy
        have IHy := HI.out y (List.mem_of_getElem? hy)
        have hcj := cnts_take hy
        have hsj := kyss_take (sn := sn) hy
        have hle := cnts_le l (j + 1)
        have CY : Hid (∀ W, Below wr.heap.size wr W → Calls Try.prog 67 #[.slice va vn vc, exV y co ck, .agg #[.int .i64 day, .slice fa fm fc]] W (RndP (n + 1 + Xp.cnt.cnts (l.take (j + 1))) (fun u => (u ∈ kyl L ∨ u ∈ K0) ∨ u ∈ kyss sn (l.take (j + 1))) W)) := Lib.hid fun W hW => by
          have hA := HA.out
          have hszr := HR.out.2.1.size
          obtain ⟨⟨L3, h1, h2, h3, h4, h5⟩, hbw, _⟩ := HR.out
          have := IHy L3 va vc co ck W (by have := hW.size; omega) h2 (h5.next hW) hck (hyl.stay (fun _ h => h) fun b hb => hW.block b (by have := hS b hb; omega)) (HFX.out W (below_mono hbw hW (Nat.le_refl _))) (by omega)
          rw [h1] at this
          refine this.mono fun e w' h => h.imp (by omega) fun u => ?_
          rw [h3, hsj, List.mem_append, or_assoc]
        obtain ⟨cm, hcm⟩ : ∃ c, c = y.args.length := ⟨_, rfl⟩
        obtain ⟨yo, hyo⟩ : ∃ v, v = y.op := ⟨_, rfl⟩
        obtain ⟨yn, hyn⟩ : ∃ v, v = y.n := ⟨_, rfl⟩
        obtain ⟨ys, hys⟩ : ∃ v, v = y.nm := ⟨_, rfl⟩
        rw [show exV y co ck = .agg #[.int .i64 yo, .int .i64 yn, .string ys, .slice co cm ck] from by rw [hcm, hyo, hyn, hys]] at CY
        rw [← hcm] at y3
        rw [← hyo] at y0
        rw [← hyn] at y1
        rw [← hys] at y2
        have HBX : Hid (∀ W, Below wr.heap.size wr W → (W.cell? (a.add (j * 4)) = some (.int .i64 yo) ∧ W.cell? ⟨(a.add (j * 4)).block, (a.add (j * 4)).off + 1, none⟩ = some (.int .i64 yn) ∧ W.cell? ⟨(a.add (j * 4)).block, (a.add (j * 4)).off + 2, none⟩ = some (.string ys) ∧ W.cell? ⟨(a.add (j * 4)).block, (a.add (j * 4)).off + 3, none⟩ = some (.slice co cm ck)) ∧ W.cell? ⟨z, 3, none⟩ = some (.slice (some a) m k) ∧ W.cell? ⟨z + 1, 0, none⟩ = some (.int .i64 day) ∧ W.cell? ⟨z + 1, 1, none⟩ = some (.slice fa fm fc)) := Lib.hid fun W hW => by
          have ha : (a.add (j * 4)).block < wr.heap.size := by rw [add_block]; have := hS _ hsa; have := HA.out; have := HR.out.2.1.size; omega
          exact ⟨⟨(hW.cell (p := a.add (j * 4)) ha).trans y0, (hW.cell (p := ⟨(a.add (j * 4)).block, (a.add (j * 4)).off + 1, none⟩) ha).trans y1, (hW.cell (p := ⟨(a.add (j * 4)).block, (a.add (j * 4)).off + 2, none⟩) ha).trans y2, (hW.cell (p := ⟨(a.add (j * 4)).block, (a.add (j * 4)).off + 3, none⟩) ha).trans y3⟩, cell_blk ((hW.block z (lt_of_heap HR.out.2.2.1)).trans HR.out.2.2.1) 3, duo ((hW.block (z + 1) (lt_of_heap HR.out.2.2.2)).trans HR.out.2.2.2)⟩
        obtain ⟨_, c3, _⟩ := HBX.out wr (Below.refl _ _)
        have HBD : Hid (Below wr.heap.size wr wr.drew) := Lib.hid (Below.refl wr.heap.size wr).drew
        have j0 : (0 : Int) ≤ (j : Int) := by omega
        have j1 : (j : Int) < (m : Int) := by omega
        clear hcm hyo hyn hys hsa hck hyl hy IHy hcj hsj hle y0 y1 y2 y3 hnc
        go_upto_region 15 with fail
        go_region_held3 (fun W => (W.cell? (a.add (j * 4)) = some (.int .i64 yo) ∧ W.cell? ⟨(a.add (j * 4)).block, (a.add (j * 4)).off + 1, none⟩ = some (.int .i64 yn) ∧ W.cell? ⟨(a.add (j * 4)).block, (a.add (j * 4)).off + 2, none⟩ = some (.string ys) ∧ W.cell? ⟨(a.add (j * 4)).block, (a.add (j * 4)).off + 3, none⟩ = some (.slice co cm ck)) ∧ W.cell? ⟨z, 3, none⟩ = some (.slice (some a) m k) ∧ W.cell? ⟨z + 1, 0, none⟩ = some (.int .i64 day) ∧ W.cell? ⟨z + 1, 1, none⟩ = some (.slice fa fm fc))
          (first | exact HBX.out _ HB4.out | exact HBX.out _ HBD.out)
          (first | (go_at_call 67; (with_reducible refine (CY.out _ HBD.out).mono ?_); rintro e w4 ⟨⟨ra, rc, L4, rfl, g1, g2, g3, g4⟩, hb⟩; have HB4 := Lib.hid (below_mono HBD.out hb (Nat.le_refl _)); have HL4 := Lib.hid (And.intro g1 (And.intro g2 (And.intro g3 g4))); clear hb g1 g2 g3 g4))
        all_goals
          obtain ⟨rn, hrn⟩ : ∃ n, n = L4.length := ⟨_, rfl⟩
          rw [← hrn]
          have HRN := Lib.hid hrn.symm
          clear hrn c3
          go_wp2_with fail
          go_roundw
          case rel => exact ⟨j + 1, ra, rn, rc, by omega, rfl, by go_num, Lib.hid ⟨⟨L4, HRN.out, HL4.out.1, HL4.out.2.1, by rw [← HRN.out]; exact HL4.out.2.2.1, HL4.out.2.2.2⟩, below_mono HR.out.2.1 HB4.out (Nat.le_refl _), (HB4.out.block z (lt_of_heap HR.out.2.2.1)).trans HR.out.2.2.1, (HB4.out.block (z + 1) (lt_of_heap HR.out.2.2.2)).trans HR.out.2.2.2⟩⟩
          case measure => simp [intOf]; omega
      · obtain rfl : j = m := by omega
        have c3 : wr.cell? ⟨z, 3, none⟩ = some (.slice bo j k) := cell_blk HR.out.2.2.1 3
        have HF := HR.out
        rw [List.take_of_length_le (by rw [HM.out]; exact Nat.le_refl _)] at HF
        have HF2 := Lib.hid HF
        clear HF HR
        go_wp2_with fail
        go_ret
        have hA := HA.out
        obtain ⟨⟨L3, h1, h2, h3, h4, h5⟩, hbw, _⟩ := HF2.out
        refine ⟨⟨va, vc, L3, by rw [h1]; rfl, h2, fun u => ?_, by omega, h5⟩, hbw⟩
        show _ ↔ (u ∈ kyl L ∨ u ∈ kys sn x)
        rw [h3, HE.out, ← HK0.out, List.mem_append, or_assoc]
end Go.Proofs.Ytidldlhhmophjaa
namespace Go.Proofs.Ytidldlhhmophjaa
open Go.RowKit Go.PlainAid Go.Sort
set_option linter.unusedVariables false
set_option linter.unusedSimpArgs false
set_option maxRecDepth 100000 in
set_option maxHeartbeats 4000000 in
theorem same_st (ao bo : Option Addr) (n c d : Nat) (xs : List ByteArray) (hn : xs.length = n) (h1000 : n ≤ 1000) (w : World) (hl : StA ao c xs w) (hl2 : StA bo d xs w) :
    Calls Try.prog 43 #[.slice ao n c, .slice bo n d] w fun e w' => e = .returned (.bool true) ∧ Below w.heap.size w w' := by
  have HS := Lib.hid hl
  have HS2 := Lib.hid hl2
  have HNN := Lib.hid hn.symm
  clear hl hl2 hn
  go_enter Try.func43, Try.ntmps43
  go_wp2_with fail
  go_loopw [5] (fun i wr => ∃ k m : Nat, k ≤ n ∧ i = .int .i64 k ∧ wr = w.drewN m) (fun i _ => n - (intOf i).toNat)
  case atStart => exact ⟨0, 0, by omega, rfl, rfl⟩
  case round =>
    obtain ⟨k, m, hk, rfl, rfl⟩ := hrel
    by_cases hlt : k < n
    · have hkx : k < xs.length := by rw [← HNN.out]; exact hlt
      obtain ⟨a, rfl, _, h1⟩ := HS.out.att (by intro e; rw [e] at hkx; simp at hkx)
      obtain ⟨a', rfl, _, h2⟩ := HS2.out.att (by intro e; rw [e] at hkx; simp at hkx)
      have hc : w.cell? (a.add k) = some (.string xs[k]) := h1 k _ (List.getElem?_eq_getElem hkx)
      have hc' : w.cell? (a'.add k) = some (.string xs[k]) := h2 k _ (List.getElem?_eq_getElem hkx)
      have hki : (k : Int) < (n : Int) := by omega
      generalize xs[k] = x at *
      clear h1 h2 hkx
      go_wp2_with fail
      go_quiet (fail)
      go_wp2_with fail
      go_roundw
      case rel => exact ⟨k + 1, _, by omega, by go_num, rfl⟩
      case measure => simp [intOf]; omega
    · obtain rfl : k = n := by omega
      go_wp2_with fail
      go_ret
      exact ⟨rfl, bel_drewN (Below.refl _ _) m⟩
set_option maxRecDepth 100000 in
set_option maxHeartbeats 4000000 in
theorem rneedsOf_any {S R : Nat → Prop} {F : List Fx} {fa : Option Addr} {fc : Nat} {day : Int} (hF : F.length ≤ 200) (x : Xp) (bo : Option Addr) (k : Nat) (w : World) (hS : ∀ b, S b → b < w.heap.size) (hR : ∀ b, R b → b < w.heap.size) (hk : x.args.length ≤ k) (hx : ExL S w x.args bo) (hfx : FxA R fa F w) (hn : x.cnt ≤ 200) :
    Calls Try.prog 42 #[exV x bo k, .agg #[.int .i64 day, .slice fa F.length fc]] w (RndP 200 (fun u => u ∈ kys (fun s => seenF day s F) x) w) := by
  have CN : Hid (∀ W, Below w.heap.size w W → Calls Try.prog 67 #[.slice none 0 0, exV x bo k, .agg #[.int .i64 day, .slice fa F.length fc]] W (RndP 200 (fun u => u ∈ kys (fun s => seenF day s F) x) W)) := Lib.hid fun W hW => by
    have := rneeds_any (S := S) (R := R) (B := w.heap.size) hS hR (F := F) (fa := fa) (fc := fc) (day := day) hF x [] none 0 bo k W hW.size List.Pairwise.nil ⟨by simp, fun h => absurd rfl h⟩ hk (hx.stay (fun _ h => h) fun b hb => hW.block b (hS b hb)) (hfx.stay (fun _ h => h) fun b hb => hW.block b (hR b hb)) (by simp; omega)
    refine this.mono fun e w' h => h.imp (by simp; omega) fun u => ?_
    simp [kyl]
  obtain ⟨KS, hKS⟩ : ∃ v : List UInt8 → Prop, v = (fun u => u ∈ kys (fun s => seenF day s F) x) := ⟨_, rfl⟩
  rw [← hKS] at CN ⊢
  obtain ⟨xo, hxo⟩ : ∃ v, v = x.op := ⟨_, rfl⟩
  obtain ⟨xn, hxn⟩ : ∃ v, v = x.n := ⟨_, rfl⟩
  obtain ⟨xs, hxs⟩ : ∃ v, v = x.nm := ⟨_, rfl⟩
  obtain ⟨m, hm⟩ : ∃ m, m = x.args.length := ⟨_, rfl⟩
  obtain ⟨fm, hfm⟩ : ∃ m, m = F.length := ⟨_, rfl⟩
  have hxe : exV x bo k = .agg #[.int .i64 xo, .int .i64 xn, .string xs, .slice bo m k] := by rw [hm, hxo, hxn, hxs]
  rw [hxe, ← hfm] at CN ⊢
  have GA := Lib.hid (pairR_made (.int .i64 xo) (.int .i64 xn) (.string xs) (.slice bo m k) (.int .i64 day) (.slice fa fm fc) w)
  clear hx hk hfx hF hS hR hn hKS hxo hxn hxs hm hfm hxe
  go_enter Try.func42, Try.ntmps42
  go_upto_region 1 with fail
  obtain ⟨W, hW⟩ : ∃ X, (w.alloc (.cells #[.int .i64 xo, .int .i64 xn, .string xs, .slice bo m k] 34)).alloc (.cells #[.int .i64 day, .slice fa fm fc] 58) = X := ⟨_, rfl⟩
  obtain ⟨b1, b2, g1⟩ := GA.out W hW
  rw [hW]
  have HG := Lib.hid g1
  obtain ⟨c0, c1, c2, c3⟩ := quad b1
  obtain ⟨e0, e1⟩ := duo b2
  clear hW b1 b2 g1 GA
  go_wp2_with (go_at_call 67; (with_reducible refine (CN.out _ HG.out).mono ?_); rintro e w4 ⟨⟨ra, rc, L4, rfl, q1, q2, q3, q4⟩, hb⟩; have HB4 := Lib.hid (below_mono HG.out hb (Nat.le_refl _)); have HL4 := Lib.hid (And.intro q1 (And.intro q2 (And.intro q3 q4))); clear hb q1 q2 q3 q4)
  go_ret
  exact ⟨⟨ra, rc, L4, rfl, HL4.out.1, HL4.out.2.1, HL4.out.2.2.1, HL4.out.2.2.2⟩, HB4.out⟩
theorem kyl_back (L : List ByteArray) : (kyl L).map Go.Proofs.encStr = strsV L := by
  unfold kyl strsV
  rw [List.map_map]
  refine List.map_congr_left fun u _ => ?_
  cases u
  simp [Go.Proofs.encStr]
/-- What is wanted, and what Needs gives: the same. -/
theorem want_same {V : World} {rs : List (List UInt8)} {rn : Nat} (hrn : rn = rs.length) {K : List (List UInt8)} (g1 : rs.Pairwise (· < ·)) (g2 : ∀ u, u ∈ rs ↔ u ∈ K) {B : Nat} {a2 : Option Addr} {c2 : Nat} (g4 : V.ownsRow B 9 1 (.slice a2 rs.length c2) rs.length (rs.map Go.Proofs.encStr)) {wa : Option Addr} {wl wc : Nat} (h : ∃ M, M.length = wl ∧ wl ≤ 200 ∧ Asc M ∧ (∀ u, u ∈ kyl M ↔ u ∈ K) ∧ StA wa wc M V) :
    Calls Try.prog 43 #[.slice a2 rn c2, .slice wa wl wc] V fun e w' => e = .returned (.bool true) ∧ Below V.heap.size V w' := by
  obtain ⟨M, h1, h2, h3, h4, h5⟩ := h
  have e : rs = kyl M := asc_eq g1 (List.pairwise_map.2 h3) fun u => by rw [g2, h4]
  subst e
  have hl : (kyl M).length = wl := by unfold kyl; rw [List.length_map, h1]
  rw [hl] at hrn g4
  subst hrn
  rw [kyl_back] at g4
  exact same_st _ _ _ _ _ M h1 (by omega) V (row_st g4 h1) h5
end Go.Proofs.Ytidldlhhmophjaa
