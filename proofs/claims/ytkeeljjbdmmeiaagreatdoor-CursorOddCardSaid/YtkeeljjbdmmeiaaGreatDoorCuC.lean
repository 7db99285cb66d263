/- Layer 14: the heap of places: its methods, called through the interface; container/heap. Conditions: those written at each theorem. -/
import Derived.Test.YtkeeljjbdmmeiaaGreatDoorCuB
namespace Go.Proofs.YtkeeljjbdmmeiaaGreatDoor
open Go.RowKit Go.Maps Go.WideShapes
set_option linter.unusedVariables false
set_option linter.unusedSimpArgs false
abbrev hpV (mb : Nat) : Value := .iface 130 (.pointer (some ⟨mb, 1, none⟩))
set_option maxRecDepth 100000 in
/-- A method of the value, asked of the pointer. -/
theorem meth_val (mb n vc : Nat) (va : Option Addr) (nm : String) (f : FuncId) (h2 : ((((Tryz.prog.info? 130).getD default).methods.find? (fun m => m.name == nm)).map fun m => m.func) = some (some (f, false)))
    (h3 : ((((Tryz.prog.info? 130).getD default).methods.find? (fun m => m.name == nm)).map fun m => m.path.size) = some 0) (k : Nat) (w : World) (c1 : w.cell? ⟨mb, 1, none⟩ = some (.slice va n vc)) : (method (k + 1) 130 (.pointer (some ⟨mb, 1, none⟩)) nm).run Tryz.prog w = .ok (f, .slice va n vc) w := by
  have h1 : (typeInfo 130).run Tryz.prog w = .ok ((Tryz.prog.info? 130).getD default) w := by kernel_rfl
  obtain ⟨m, hm, he⟩ := Option.map_eq_some_iff.1 h2
  rw [hm] at h3
  have hl : (loadVar 93 ⟨mb, 1, none⟩).run Tryz.prog w = .ok (.slice va n vc) w := by simp [go_sem, loadVar, c1]
  have hu : ∀ w, (underlying 130).run Tryz.prog w = .ok (.pointer 93) w := fun w => by kernel_rfl
  obtain ⟨mn, ms, mp, mf⟩ := m
  simp at h3 he
  obtain ⟨rfl, rfl⟩ : mp = #[] ∧ mf = _ := ⟨h3, he⟩
  have hs : ∀ (xt : TypeId) (a : Addr) (s t : String), Builtin.ssaWrapNilChk_ #[xt] xt #[.pointer (some a), strVal s, strVal t] = pure (.pointer (some a)) := fun _ _ _ _ => rfl
  have hr : ∀ o : Option String, (receiverAt 130 (.val (.pointer (some ⟨mb, 1, none⟩))) false o).run Tryz.prog w = .ok (.slice va n vc) w := by
    intro o
    cases o <;> simp only [receiverAt, Sem.run_bind, Sem.run_pure, Result.andThen, hu, Place.get, hs, asAddr, hl]
  unfold method
  rw [Sem.run_bind, h1]
  dsimp only [Result.andThen]
  rw [hm]
  dsimp only
  simp only [follow, Sem.run_bind, Sem.run_pure, Result.andThen, hr]
set_option maxRecDepth 100000 in
theorem meth_pop (mb : Nat) (w : World) : (method 309 130 (.pointer (some ⟨mb, 1, none⟩)) "Pop").run Tryz.prog w = .ok (156, .pointer (some ⟨mb, 1, none⟩)) w := by
  kernel_rfl
theorem meth_len {mb n vc : Nat} {va : Option Addr} {w : World} (c1 : w.cell? ⟨mb, 1, none⟩ = some (.slice va n vc)) : (method 309 130 (.pointer (some ⟨mb, 1, none⟩)) "Len").run Tryz.prog w = .ok (152, .slice va n vc) w := meth_val mb n vc va "Len" _ (by kernel_rfl) (by kernel_rfl) 308 w c1
theorem meth_less {mb n vc : Nat} {va : Option Addr} {w : World} (c1 : w.cell? ⟨mb, 1, none⟩ = some (.slice va n vc)) : (method 309 130 (.pointer (some ⟨mb, 1, none⟩)) "Less").run Tryz.prog w = .ok (153, .slice va n vc) w := meth_val mb n vc va "Less" _ (by kernel_rfl) (by kernel_rfl) 308 w c1
theorem meth_swap {mb n vc : Nat} {va : Option Addr} {w : World} (c1 : w.cell? ⟨mb, 1, none⟩ = some (.slice va n vc)) : (method 309 130 (.pointer (some ⟨mb, 1, none⟩)) "Swap").run Tryz.prog w = .ok (154, .slice va n vc) w := meth_val mb n vc va "Swap" _ (by kernel_rfl) (by kernel_rfl) 308 w c1
theorem plen_any (va : Option Addr) (n vc : Nat) (w : World) : Calls Tryz.prog 152 #[.slice va n vc] w fun e w' => e = .returned (.int .i64 n) ∧ w = w' := by
  go_enter Tryz.func152, Tryz.ntmps152
  go_wp2_with fail
  go_ret
  exact ⟨rfl, rfl⟩
/-- The places of a heap as cells. -/
def ptrs (P : List Pl) (L : List Nat) : List Value := L.map fun i => .pointer (some ⟨(P.getD i nil0).b, 0, none⟩)
theorem ptrs_len (P : List Pl) (L : List Nat) : (ptrs P L).length = L.length := by simp [ptrs]
structure HpAt (mb : Nat) (av : Value) (P : List Pl) (L : List Nat) (va : Option Addr) (vc : Nat) (w : World) : Prop where
  hd : w.heap[mb]? = some (.cells #[av, .slice va L.length vc, .int .i64 0] 95 (0, 0))
  row : w.ownsRow 0 97 1 (.slice va L.length vc) L.length (ptrs P L)
  pls : ∀ i p, P[i]? = some p → PlAt i p w
  lv : ∀ h ∈ L, ∃ p, P[h]? = some p
  few : L.length ≤ 1000
theorem HpAt.drew {mb : Nat} {av : Value} {P : List Pl} {L : List Nat} {va : Option Addr} {vc : Nat} {w : World} (h : HpAt mb av P L va vc w) : HpAt mb av P L va vc w.drew := ⟨h.hd, h.row, fun i p hp => ⟨(h.pls i p hp).blk, (h.pls i p hp).row, (h.pls i p hp).few⟩, h.lv, h.few⟩
theorem row_lt {w : World} {n : Nat} {e : TypeId} {z : Nat} {v : Value} {xs : List Value} (h : w.ownsRow 0 e z v n xs) {g : Nat} (hg : v.ownBlock = some g) : g < w.heap.size := by
  rcases h.2 with ⟨rfl, _⟩ | ⟨g', cap, cur, rfl, _, hgg, _⟩
  · cases hg
  · cases hg; exact lt_of_heap hgg
theorem HpAt.next {mb : Nat} {av : Value} {P : List Pl} {L : List Nat} {va : Option Addr} {vc : Nat} {w w' : World} (h : HpAt mb av P L va vc w) (k : Below w.heap.size w w') : HpAt mb av P L va vc w' :=
  ⟨(k.block mb (lt_of_heap h.hd)).trans h.hd, row_stay h.row fun g hg => k.block g (row_lt h.row hg), fun i p hp => (h.pls i p hp).next k, h.lv, h.few⟩
theorem HpAt.c1 {mb : Nat} {av : Value} {P : List Pl} {L : List Nat} {va : Option Addr} {vc : Nat} {w : World} (h : HpAt mb av P L va vc w) : w.cell? ⟨mb, 1, none⟩ = some (.slice va L.length vc) := cell_blk h.hd 1
/-- A pointer of the heap in memory. -/
theorem HpAt.ptr {mb : Nat} {av : Value} {P : List Pl} {L : List Nat} {va : Option Addr} {vc : Nat} {w : World} (h : HpAt mb av P L va vc w) {i k : Nat} (hi : L[i]? = some k) : ∃ g p, va = some ⟨g, 0, none⟩ ∧ P[k]? = some p ∧ P.getD k nil0 = p ∧ PlAt k p w ∧ w.cell? ⟨g, i, none⟩ = some (.pointer (some ⟨p.b, 0, none⟩)) ∧ w.frozen? ⟨g, i, none⟩ = false := by
  have hj := (List.getElem?_eq_some_iff.1 hi).1
  obtain ⟨p, hp⟩ := h.lv k (List.mem_of_getElem? hi)
  have hr := h.row
  rcases hr.2 with ⟨hv, h0⟩ | ⟨g, cap, cur, hv, hb, hg, hc, hcp, hsz, htk⟩
  · omega
  · injection hv with e1 e2 e3
    rw [e1] at hr
    have hgd : P.getD k nil0 = p := by simp [List.getD, hp]
    refine ⟨g, p, e1, hp, hgd, h.pls k p hp, ?_, free_blk hg i⟩
    rw [hr.cellAt i (by omega)]
    simp [ptrs, hi, hp]
theorem pair_field (W : World) (k v : ByteArray) : (Instr.field 46 (.agg #[.string k, .string v]) 0).run Tryz.prog W = .ok (.string k) W := by kernel_rfl
set_option maxRecDepth 100000 in
set_option maxHeartbeats 2000000 in
theorem less_any {mb : Nat} {av : Value} {P : List Pl} {L : List Nat} {va : Option Addr} {vc i j a b : Nat} (w : World) (h : HpAt mb av P L va vc w) (hi : L[i]? = some a) (hj : L[j]? = some b) (hva : (P.getD a nil0).ok = true) (hvb : (P.getD b nil0).ok = true) :
    Calls Tryz.prog 153 #[.slice va L.length vc, .int .i64 i, .int .i64 j] w fun e w' => e = .returned (.bool (plt P a b)) ∧ Below w.heap.size w w' := by
  obtain ⟨g, p, rfl, hp, hpd, hpa, pc, _⟩ := h.ptr hi
  obtain ⟨g', q, hg', hq, hqd, hqa, qc, _⟩ := h.ptr hj
  have hpv : p.pos < p.ps.length := by rw [hpd] at hva; exact of_decide_eq_true hva
  have hqv : q.pos < q.ps.length := by rw [hqd] at hvb; exact of_decide_eq_true hvb
  cases hg'
  have hli := (List.getElem?_eq_some_iff.1 hi).1
  have hlj := (List.getElem?_eq_some_iff.1 hj).1
  have hpl : plt P a b = pLess p q a b := by unfold plt; rw [hpd, hqd]
  rw [hpl]
  have CP : Hid (∀ V, Below w.heap.size w V → Calls Tryz.prog 51 #[.pointer (some ⟨p.b, 0, none⟩)] V fun e w' => e = .returned (.agg #[.string p.kv.k, .string p.kv.v]) ∧ Below V.heap.size V w') := Lib.hid fun V hV => pair_any V (hpa.next hV) hpv
  have CQ : Hid (∀ V, Below w.heap.size w V → Calls Tryz.prog 51 #[.pointer (some ⟨q.b, 0, none⟩)] V fun e w' => e = .returned (.agg #[.string q.kv.k, .string q.kv.v]) ∧ Below V.heap.size V w') := Lib.hid fun V hV => pair_any V (hqa.next hV) hqv
  have HC : Hid (∀ V, Below w.heap.size w V → V.cell? ⟨g, i, none⟩ = some (.pointer (some ⟨p.b, 0, none⟩)) ∧ V.cell? ⟨g, j, none⟩ = some (.pointer (some ⟨q.b, 0, none⟩)) ∧ V.cell? ⟨p.b, 3, none⟩ = some (.int .i64 a) ∧ V.cell? ⟨q.b, 3, none⟩ = some (.int .i64 b)) := Lib.hid fun V hV => by
    have h2 := h.next hV
    have hgl : g < w.heap.size := row_lt h.row rfl
    exact ⟨(hV.cell (p := ⟨g, i, none⟩) hgl).trans pc, (hV.cell (p := ⟨g, j, none⟩) hgl).trans qc, (hpa.next hV).five.2.2.2.1, (hqa.next hV).five.2.2.2.1⟩
  obtain ⟨n, hn⟩ : ∃ n, n = L.length := ⟨_, rfl⟩
  obtain ⟨pb, hpb⟩ : ∃ n, n = p.b := ⟨_, rfl⟩
  obtain ⟨qb, hqb⟩ : ∃ n, n = q.b := ⟨_, rfl⟩
  obtain ⟨pk, hpk⟩ : ∃ n, n = p.kv.k := ⟨_, rfl⟩
  obtain ⟨qk, hqk⟩ : ∃ n, n = q.kv.k := ⟨_, rfl⟩
  obtain ⟨pw, hpw⟩ : ∃ n, n = p.kv.v := ⟨_, rfl⟩
  obtain ⟨qw, hqw⟩ : ∃ n, n = q.kv.v := ⟨_, rfl⟩
  have hres : pLess p q a b = (Op.bytesLess pk.toList qk.toList || ((pk.toList == qk.toList) && decide (a < b))) := by rw [hpk, hqk]; rfl
  rw [hres]
  rw [← hpb] at CP HC
  rw [← hqb] at CQ HC
  rw [← hpk, ← hpw] at CP
  rw [← hqk, ← hqw] at CQ
  rw [← hn] at hli hlj ⊢
  have i0 : (0 : Int) ≤ (i : Int) := by omega
  have i1 : (i : Int) < (n : Int) := by omega
  have j0 : (0 : Int) ≤ (j : Int) := by omega
  have j1 : (j : Int) < (n : Int) := by omega
  have HBD : Hid (Below w.heap.size w w.drew) := Lib.hid (Below.refl _ _).drew
  have hf1 := fun W => pair_field W pk pw
  have hf2 := fun W => pair_field W qk qw
  clear hva hvb h hi hj hp hpd hpv hpa pc hq hqd hqv hqa qc hpl hn hpb hqb hpk hqk hpw hqw hres hli hlj
  go_enter Tryz.func153, Tryz.ntmps153
  go_upto_region 1 with fail
  go_region_held3 (fun V => V.cell? ⟨g, i, none⟩ = some (.pointer (some ⟨pb, 0, none⟩)) ∧ V.cell? ⟨g, j, none⟩ = some (.pointer (some ⟨qb, 0, none⟩)))
    (first | exact ⟨(HC.out _ HB2.out).1, (HC.out _ HB2.out).2.1⟩ | exact ⟨(HC.out _ HB1.out).1, (HC.out _ HB1.out).2.1⟩ | exact ⟨(HC.out _ HBD.out).1, (HC.out _ HBD.out).2.1⟩)
    (first
      | (go_at_call 51; (with_reducible refine (CP.out _ HBD.out).mono ?_); rintro e w1 ⟨rfl, hb⟩; have HB1 := Lib.hid (below_mono HBD.out hb (Nat.le_refl _)); clear hb)
      | (go_at_call 51; (with_reducible refine (CQ.out _ HB1.out).mono ?_); rintro e w2 ⟨rfl, hb⟩; have HB2 := Lib.hid (below_mono HB1.out hb (Nat.le_refl _)); clear hb))
  obtain ⟨d0, d1, d2, d3⟩ := HC.out w2 HB2.out
  go_upto_region 2 with fail
  have hu : undef = Value.tuple #[] := rfl
  cases hb1 : Op.bytesLess pk.toList qk.toList with
  | true =>
    go_quiet (fail)
    go_wp2_with fail
    go_ret
    exact ⟨by rw [hb1]; rfl, bel_drewN HB2.out _⟩
  | false =>
    cases hb2 : (pk.toList == qk.toList) with
    | true =>
      go_quiet (fail)
      go_wp2_with fail
      go_ret
      exact ⟨by rw [hb1, hb2]; simp, bel_drewN HB2.out _⟩
    | false =>
      go_quiet (fail)
      go_wp2_with fail
      go_ret
      exact ⟨by rw [hb1, hb2]; rfl, bel_drewN HB2.out _⟩
/-- Two pointers change places in memory. -/
theorem row_set {w : World} {e : TypeId} {g n c i : Nat} {xs : List Value} {v : Value} (h : w.ownsRow 0 e 1 (.slice (some ⟨g, 0, none⟩) n c) n xs) (hi : i < n) : (w.setCell ⟨g, i, none⟩ v).ownsRow 0 e 1 (.slice (some ⟨g, 0, none⟩) n c) n (xs.set i v) := by
  refine ⟨by rw [List.length_set]; exact h.1, ?_⟩
  rcases h.2 with ⟨hv, h0⟩ | ⟨b, cap, cur, hv, hb, hg, hc, hcp, hsz, htk⟩
  · omega
  · injection hv with e1 e2 e3
    injection e1 with e1
    injection e1 with e1
    subst e1
    subst e3
    refine .inr ⟨g, c, cur.setIfInBounds i v, rfl, Nat.zero_le _, set_same v hg, hc, hcp, by simpa using hsz, ?_⟩
    rw [← htk, Array.toList_setIfInBounds, List.take_set]
theorem ptrs_set (P : List Pl) (L : List Nat) (i k : Nat) : (ptrs P L).set i (.pointer (some ⟨(P.getD k nil0).b, 0, none⟩)) = ptrs P (L.set i k) := by
  simp [ptrs, List.map_set]
theorem swp_mem {L : List Nat} {i j h : Nat} (hi : i < L.length) (hj : j < L.length) (hm : h ∈ swp L i j) : h ∈ L := by
  unfold swp at hm
  rcases List.mem_or_eq_of_mem_set hm with h1 | h1
  · rcases List.mem_or_eq_of_mem_set h1 with h2 | h2
    · exact h2
    · rw [h2]; simp [List.getD, List.getElem?_eq_getElem hj]
  · rw [h1]; simp [List.getD, List.getElem?_eq_getElem hi]
theorem type_ne {w : World} {a b : Nat} {cs ds : Array Value} {s t : TypeId} {x y : Nat × Nat} (h1 : w.heap[a]? = some (.cells cs s x)) (h2 : w.heap[b]? = some (.cells ds t y)) (hn : s ≠ t) : a ≠ b := by
  rintro rfl
  rw [h1] at h2
  injection h2 with h2
  injection h2 with _ h2 _
  exact hn h2
/-- A place stays where the cells of a heap change. -/
theorem PlAt.far {i : Nat} {p : Pl} {w w' : World} (h : PlAt i p w) {g : Nat} {cs : Array Value} {t : TypeId} {x : Nat × Nat} (hg : w.heap[g]? = some (.cells cs t x)) (h1 : t ≠ 99) (h2 : t ≠ 46) (hk : ∀ b, b < w.heap.size → b ≠ g → w'.heap[b]? = w.heap[b]?) : PlAt i p w' := by
  refine ⟨(hk p.b (lt_of_heap h.blk) (type_ne h.blk hg (Ne.symm h1))).trans h.blk, row_stay h.row fun b hb => hk b (row_lt h.row hb) ?_, h.few⟩
  rcases h.row.2 with ⟨hv, _⟩ | ⟨b', _, _, hv, _, hg2, _⟩
  · rw [hv] at hb; cases hb
  · rw [hv] at hb; cases hb; exact type_ne hg2 hg (Ne.symm h2)
set_option maxRecDepth 100000 in
set_option maxHeartbeats 2000000 in
theorem swap_any {mb : Nat} {av : Value} {P : List Pl} {L : List Nat} {va : Option Addr} {vc i j : Nat} (w : World) (h : HpAt mb av P L va vc w) (hi : i < L.length) (hj : j < L.length) (hij : i ≠ j) :
    Calls Tryz.prog 154 #[.slice va L.length vc, .int .i64 i, .int .i64 j] w fun e w' => e = .returned (.tuple #[]) ∧ HpAt mb av P (swp L i j) va vc w' ∧ w'.heap.size = w.heap.size ∧ Only ((Value.slice va L.length vc).ownBlock.toList) w w' := by
  obtain ⟨a, ha⟩ : ∃ a, L[i]? = some a := ⟨_, List.getElem?_eq_getElem hi⟩
  obtain ⟨b, hb⟩ : ∃ b, L[j]? = some b := ⟨_, List.getElem?_eq_getElem hj⟩
  obtain ⟨g, p, rfl, hp, hpd, hpa, pc, pz⟩ := h.ptr ha
  obtain ⟨g', q, hg', hq, hqd, hqa, qc, qz⟩ := h.ptr hb
  cases hg'
  have hga : L.getD i 0 = a := by simp [List.getD, ha]
  have hgb : L.getD j 0 = b := by simp [List.getD, hb]
  obtain ⟨cs, hgb0⟩ : ∃ cs, w.heap[g]? = some (.cells cs 97 (0, 0)) := by
    rcases h.row.2 with ⟨hv, h0⟩ | ⟨b', cap, cur, hv, _, hg, _⟩
    · cases hv
    · cases hv; exact ⟨cur, hg⟩
  have HF : Hid (∀ V, (w.setCell ⟨g, i, none⟩ (.pointer (some ⟨q.b, 0, none⟩))).setCell ⟨g, j, none⟩ (.pointer (some ⟨p.b, 0, none⟩)) = V → HpAt mb av P (swp L i j) (some ⟨g, 0, none⟩) vc V ∧ V.heap.size = w.heap.size ∧ Only [g] w V) := Lib.hid (by
    rintro V rfl
    have hO : Only [g] w ((w.setCell ⟨g, i, none⟩ (.pointer (some ⟨q.b, 0, none⟩))).setCell ⟨g, j, none⟩ (.pointer (some ⟨p.b, 0, none⟩))) := ((Only.refl [g] w).set (a := ⟨g, i, none⟩) (.inl (by simp)) _).set (a := ⟨g, j, none⟩) (.inl (by simp)) _
    have hk : ∀ b, b < w.heap.size → b ≠ g → ((w.setCell ⟨g, i, none⟩ (.pointer (some ⟨q.b, 0, none⟩))).setCell ⟨g, j, none⟩ (.pointer (some ⟨p.b, 0, none⟩))).heap[b]? = w.heap[b]? := fun b hb hn => hO.block b hb (by simp [hn])
    refine ⟨⟨?_, ?_, fun i p hp => (h.pls i p hp).far hgb0 (by decide) (by decide) hk, fun x hx => h.lv x (swp_mem hi hj hx), by rw [swp_len]; exact h.few⟩, by simp, hO⟩
    · rw [swp_len]; exact (hk mb (lt_of_heap h.hd) (type_ne h.hd hgb0 (by decide))).trans h.hd
    · rw [swp_len]
      have h1 := row_set (v := .pointer (some ⟨p.b, 0, none⟩)) (row_set (v := .pointer (some ⟨q.b, 0, none⟩)) h.row hi) hj
      unfold swp
      rw [hga, hgb, ← ptrs_set, ← ptrs_set, hpd, hqd]
      exact h1)
  obtain ⟨n, hn⟩ : ∃ n, n = L.length := ⟨_, rfl⟩
  obtain ⟨pb, hpb⟩ : ∃ n, n = p.b := ⟨_, rfl⟩
  obtain ⟨qb, hqb⟩ : ∃ n, n = q.b := ⟨_, rfl⟩
  rw [← hpb] at pc
  rw [← hqb] at qc
  rw [← hpb, ← hqb] at HF
  have e0 : ((Value.slice (some ⟨g, 0, none⟩) L.length vc).ownBlock.toList) = [g] := rfl
  rw [e0]
  rw [← hn] at hi hj ⊢
  have i0 : (0 : Int) ≤ (i : Int) := by omega
  have i1 : (i : Int) < (n : Int) := by omega
  have j0 : (0 : Int) ≤ (j : Int) := by omega
  have j1 : (j : Int) < (n : Int) := by omega
  have GB := Lib.hid hgb0
  clear h ha hb hp hpd hpa hq hqd hqa hga hgb hgb0 e0 hn hpb hqb hi hj
  go_enter Tryz.func154, Tryz.ntmps154
  have qc2 : (w.setCell ⟨g, i, none⟩ (.pointer (some ⟨qb, 0, none⟩))).cell? ⟨g, j, none⟩ = some (.pointer (some ⟨qb, 0, none⟩)) := (World.cell?_setCell_other _ _ _ _ (by intro e; injection e with _ e _; exact hij (by first | exact e | exact e.symm))).trans qc
  have qz2 : (w.setCell ⟨g, i, none⟩ (.pointer (some ⟨qb, 0, none⟩))).frozen? ⟨g, j, none⟩ = false := (World.frozen?_setCell _ _ _ _).trans qz
  go_region
  go_end0
  obtain ⟨f1, f2, f3⟩ := HF.out _ rfl
  exact ⟨rfl, f1.drew, f2, f3.drew⟩
set_option maxRecDepth 100000 in
theorem pop_any {mb : Nat} {av : Value} {P : List Pl} {L : List Nat} {va : Option Addr} {vc n : Nat} (w : World) (h : HpAt mb av P L va vc w) (hl : L.length = n + 1) :
    Calls Tryz.prog 156 #[.pointer (some ⟨mb, 1, none⟩)] w fun e w' => e = .returned .nilIface ∧ HpAt mb av P (L.take n) va vc w' ∧ w'.heap.size = w.heap.size ∧ Only [mb] w w' := by
  have c1 := h.c1
  have z1 := free_blk h.hd 1
  rw [hl] at c1
  obtain ⟨g, hv⟩ : ∃ g, va = some ⟨g, 0, none⟩ := by
    rcases h.row.2 with ⟨hv, h0⟩ | ⟨b', cap, cur, hv, _⟩
    · omega
    · injection hv with e1 _ _; exact ⟨_, e1⟩
  subst hv
  have hvc : n + 1 ≤ vc := by
    rcases h.row.2 with ⟨hv, h0⟩ | ⟨b', cap, cur, hv, _, _, hc, _⟩
    · cases hv
    · injection hv with _ _ e3; rw [e3]; omega
  have HF : Hid (HpAt mb av P (L.take n) (some ⟨g, 0, none⟩) vc (w.setCell ⟨mb, 1, none⟩ (.slice (some ⟨g, 0, none⟩) n vc)) ∧ (w.setCell ⟨mb, 1, none⟩ (.slice (some ⟨g, 0, none⟩) n vc)).heap.size = w.heap.size ∧ Only [mb] w (w.setCell ⟨mb, 1, none⟩ (.slice (some ⟨g, 0, none⟩) n vc))) := Lib.hid (by
    have hO : Only [mb] w (w.setCell ⟨mb, 1, none⟩ (.slice (some ⟨g, 0, none⟩) n vc)) := (Only.refl [mb] w).set (a := ⟨mb, 1, none⟩) (.inl (by simp)) _
    have hk : ∀ b, b < w.heap.size → b ≠ mb → (w.setCell ⟨mb, 1, none⟩ (.slice (some ⟨g, 0, none⟩) n vc)).heap[b]? = w.heap[b]? := fun b hb hn => hO.block b hb (by simp [hn])
    have hlt : (L.take n).length = n := by rw [List.length_take]; omega
    refine ⟨⟨by rw [hlt]; exact set_same _ h.hd, ?_, fun i p hp => (h.pls i p hp).far h.hd (by decide) (by decide) hk, fun x hx => h.lv x (List.mem_of_mem_take hx), by have := h.few; omega⟩, by simp, hO⟩
    rw [hlt]
    rcases h.row.2 with ⟨hv, h0⟩ | ⟨b', cap, cur, hv, hb, hg, hc, hcp, hsz, htk⟩
    · cases hv
    · injection hv with e1 e2 e3
      injection e1 with e1
      injection e1 with e1
      subst e1
      subst e3
      refine ⟨by rw [ptrs_len, hlt]; omega, .inr ⟨g, vc, cur, rfl, hb, (hk g (lt_of_heap hg) (type_ne hg h.hd (by decide))).trans hg, by omega, hcp, hsz, ?_⟩⟩
      have e5 : ptrs P (L.take n) = (ptrs P L).take n := by simp [ptrs, List.map_take]
      rw [e5, ← htk, List.take_take]
      congr 1
      omega)
  have hfw := h.few
  have q1 : IntKind.i64.wrap (((n + 1 : Nat) : Int) - 1) = (n : Int) := by rw [IntKind.wrap_i64]; omega
  have n0 : (0 : Int) ≤ (n : Int) := by omega
  have n1 : (n : Int) ≤ (vc : Int) := by omega
  obtain ⟨m, hm⟩ : ∃ m, m = n + 1 := ⟨_, rfl⟩
  rw [← hm] at c1 q1
  have hnm : n ≤ vc := by omega
  clear h hl hvc hfw hm
  go_enter Tryz.func156, Tryz.ntmps156
  go_wp2_with fail
  go_ret
  exact ⟨rfl, HF.out⟩
end Go.Proofs.YtkeeljjbdmmeiaaGreatDoor
