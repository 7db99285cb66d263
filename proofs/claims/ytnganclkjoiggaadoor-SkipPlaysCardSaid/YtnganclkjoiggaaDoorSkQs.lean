/- Clear; a map and the list that it is held against. Conditions: those written at each theorem. -/
import Derived.Test.YtnganclkjoiggaaDoorSkPs
namespace Go.Proofs.YtnganclkjoiggaaDoor
open Go.RowKit Go.Maps Go.WideShapes
set_option linter.unusedVariables false
set_option linter.unusedSimpArgs false
namespace sk
theorem setCells_only (b : Nat) : ∀ (vs : List Value) (o : Nat) (w : World), Only [b] w (w.setCells b o vs)
  | [], _, w => Only.refl _ _
  | v :: vs, o, w => ((Only.refl [b] w).set (a := ⟨b, o, none⟩) (.inl (by simp)) v).trans (setCells_only b vs (o + 1) _) fun x hx => .inl hx
theorem setCells_at (b : Nat) (t : TypeId) : ∀ (vs : List Value) (o : Nat) (w : World) (cs : Array Value), w.heap[b]? = some (.cells cs t (0, 0)) → ∃ cs', (w.setCells b o vs).heap[b]? = some (.cells cs' t (0, 0)) ∧ cs'.size = cs.size ∧ ∀ i, i < cs.size → cs'[i]? = if o ≤ i ∧ i < o + vs.length then vs[i - o]? else cs[i]?
  | [], o, w, cs, h => ⟨cs, h, rfl, fun i hi => by rw [if_neg (by intro h; simp at h; omega)]⟩
  | v :: vs, o, w, cs, h => by
    obtain ⟨cs', h1, h2, h3⟩ := setCells_at b t vs (o + 1) _ _ (set_same (i := o) v h)
    refine ⟨cs', h1, by rw [h2]; simp, fun i hi => ?_⟩
    rw [h3 i (by simpa using hi)]
    by_cases e : i = o
    · subst e
      rw [if_neg (by omega), if_pos (by simp)]
      simp [hi]
    · by_cases e2 : o + 1 ≤ i ∧ i < o + 1 + vs.length
      · rw [if_pos e2, if_pos (by simp; omega), show i - o = (i - (o + 1)) + 1 by omega]; rfl
      · rw [if_neg e2, if_neg (by simp; omega), Array.getElem?_setIfInBounds_ne (by omega)]
theorem zptr (w : World) : (zeroValue 59).run Tryd.prog w = .ok (.pointer none) w := by kernel_rfl
set_option maxRecDepth 100000 in
set_option maxHeartbeats 4000000 in
theorem clear_any {B m : Nat} {H : Nd} {mx : Int} {ns : List Nd} {w : World} (h : SkAt B m H mx ns w) :
    Calls Tryd.prog 15 #[.pointer (some ⟨m, 0, none⟩)] w fun e w' => e = .returned (.tuple #[]) ∧ SkAt B m H mx [] w' ∧ Only (blks m H ns) w w' := by
  have hh : NdAt H (nx ns nil) w := h.node (A := []) (T := ns) rfl
  obtain ⟨_, _, c2, c3⟩ := hh.cells
  have h16 := h.hh.1
  rw [h16] at c2
  have c0 := cell_blk h.hd 0
  simp only [List.getElem?_toArray, ptr] at c0
  have nd := h.nd
  have hbm : H.b ≠ m ∧ H.nb ≠ m ∧ H.b ≠ H.nb := by
    simp only [List.flatMap_cons, own, List.cons_append, List.nil_append, List.nodup_cons, List.mem_cons, not_or] at nd
    exact ⟨fun e => nd.1.1 e.symm, fun e => nd.1.2.1 e.symm, nd.2.1.1⟩
  obtain ⟨w1, hw1⟩ : ∃ x, x = w.setCells H.nb 0 (List.replicate 16 (.pointer none)) := ⟨_, rfl⟩
  have hcl : ∀ ty, (Builtin.clear_ #[60] ty #[.slice (some ⟨H.nb, 0, none⟩) 16 16]).run Tryd.prog w = .ok (.tuple #[]) w1 := fun ty => by
    rw [hw1]
    refine Lib.run_clear_slice w 60 59 ty (.pointer none) Tryd.underlying60 zptr rfl rfl H.nb 0 16 16 (by omega) (fun j hj => ?_) (fun j hj => free_blk hh.2 _)
    rw [Nat.zero_add, c3 j (by omega)]; rfl
  have hO : Only [H.nb] w w1 := by rw [hw1]; exact setCells_only _ _ _ _
  have hrow : w1.heap[H.nb]? = some (.cells (rowOf 16 nil) 59 (0, 0)) := by
    obtain ⟨cs', h1, h2, h3⟩ := setCells_at H.nb 59 (List.replicate 16 (.pointer none)) 0 w _ hh.2
    rw [← hw1] at h1
    rw [h1]
    congr 2
    rw [h16, rowOf_size] at h2 h3
    apply Array.ext
    · rw [h2, rowOf_size]
    · intro i hi1 hi2
      have h4 := h3 i (by omega)
      rw [if_pos (by simp; omega), Array.getElem?_eq_getElem hi1] at h4
      have h5 := rowOf_at (h := 16) nil (i := i) (by omega)
      rw [Array.getElem?_eq_getElem hi2] at h5
      have h6 : (List.replicate 16 (Value.pointer none))[i - 0]? = some (.pointer none) := by rw [List.getElem?_replicate, if_pos (by omega)]
      rw [h6] at h4
      injection h4 with h4; injection h5 with h5
      rw [h4, h5]; rfl
  have hm1 : w1.heap[m]? = w.heap[m]? := hO.block m (lt_of_heap h.hd) (by simp; exact hbm.2.1.symm)
  have hb1 : w1.heap[H.b]? = w.heap[H.b]? := hO.block H.b (lt_of_heap hh.1) (by simp; exact hbm.2.2)
  have d1 := cell_blk (hm1.trans h.hd) 1
  have e1 := free_blk (hm1.trans h.hd) 1
  simp only [List.getElem?_toArray] at d1
  have FIN : Hid (SkAt B m H mx [] (w1.setCell ⟨m, 1, none⟩ (.int .i64 0)) ∧ Only (blks m H ns) w (w1.setCell ⟨m, 1, none⟩ (.int .i64 0))) := Lib.hid (by
    refine ⟨⟨?_, ⟨⟨?_, ?_⟩, trivial⟩, ⟨h16, by simp⟩, ?_, fun k hk => h.lo k ?_, List.Pairwise.nil, h.mw⟩, ?_⟩
    · rw [set_same _ (hm1.trans h.hd)]; rfl
    · exact (set_other _ _ _ _ hbm.1).trans (hb1.trans hh.1)
    · rw [h16]; exact (set_other _ _ _ _ hbm.2.1).trans hrow
    · simp only [List.flatMap_cons, List.flatMap_nil, own, List.append_nil, List.nodup_cons, List.mem_cons, List.not_mem_nil, or_false, not_or]
      exact ⟨⟨hbm.1.symm, hbm.2.1.symm⟩, hbm.2.2, by simp⟩
    · simp only [List.flatMap_cons, List.flatMap_nil, own, List.append_nil, List.mem_cons, List.not_mem_nil, or_false] at hk
      simp only [List.flatMap_cons, own, List.cons_append, List.nil_append, List.mem_cons]
      rcases hk with hk | hk | hk
      · exact .inl hk
      · exact .inr (.inl hk)
      · exact .inr (.inr (.inl hk))
    · refine (hO.mono fun x hx => ?_).set (a := ⟨m, 1, none⟩) (.inl (List.mem_cons_self ..)) _
      rw [List.mem_singleton] at hx
      subst hx
      simp [own])
  obtain ⟨b, hb⟩ : ∃ b, b = H.b := ⟨_, rfl⟩
  obtain ⟨nb, hnb⟩ : ∃ b, b = H.nb := ⟨_, rfl⟩
  rw [← hb] at c0 c2
  rw [← hnb] at c2 hcl
  clear h hh h16 nd hbm hO hrow hm1 hb1 hb hnb c3 hw1
  go_enter Tryd.func15, Tryd.ntmps15
  go_wp2_with fail
  go_end0
  exact ⟨rfl, FIN.out⟩
/-- Where a key parts the nodes. -/
def cutA (ns : List Nd) (k : ByteArray) : List Nd := ns.takeWhile fun n => lt n.k k
def cutB (ns : List Nd) (k : ByteArray) : List Nd := ns.dropWhile fun n => lt n.k k
theorem cut_join (ns : List Nd) (k : ByteArray) : ns = cutA ns k ++ cutB ns k := (List.takeWhile_append_dropWhile).symm
theorem cut_one {As Bs : List Nd} {k : ByteArray} (h : Cut2 k As Bs) : cutA (As ++ Bs) k = As ∧ cutB (As ++ Bs) k = Bs := by
  unfold cutA cutB
  rw [List.takeWhile_append_of_pos (fun n hn => h.1 n hn), List.dropWhile_append_of_pos (fun n hn => h.1 n hn)]
  cases Bs with
  | nil => simp
  | cons b T => simp [List.takeWhile_cons, List.dropWhile_cons, h.2 b (List.mem_cons_self ..)]
theorem cut_two {ns : List Nd} (so : ns.Pairwise fun a b => lt a.k b.k = true) (k : ByteArray) : Cut2 k (cutA ns k) (cutB ns k) := by
  obtain ⟨As, Bs, rfl, hc⟩ := cut_ex k ns so
  obtain ⟨e1, e2⟩ := cut_one hc
  rw [e1, e2]; exact hc
theorem not_at {Bs : List Nd} {k : ByteArray} (h : ∀ x ∈ Bs, lt k x.k = true) : isAt Bs k = false ∧ got Bs k = 0 := by
  cases Bs with
  | nil => exact ⟨rfl, rfl⟩
  | cons b T =>
    have : b.k ≠ k := fun e => by have := h b (List.mem_cons_self ..); rw [e, lt_irrefl] at this; cases this
    simp [isAt, got, this]
theorem PutR.told {ns ns' : List Nd} {k : ByteArray} {v a : Int} {b : Bool} (h : PutR ns k v ns' a b) : a = got (cutB ns k) k ∧ b = isAt (cutB ns k) k := by
  obtain ⟨As, Bs, rfl, hc, h⟩ := h
  rw [(cut_one hc).2]
  rcases h with ⟨E, T, rfl, rfl, _, rfl, rfl⟩ | ⟨hn, _, _, _, _, rfl, rfl⟩
  · simp [isAt, got]
  · obtain ⟨h1, h2⟩ := not_at hn
    exact ⟨h2.symm, h1.symm⟩
theorem DelR.told {ns ns' : List Nd} {k : ByteArray} {a : Int} {b : Bool} (h : DelR ns k ns' a b) : a = got (cutB ns k) k ∧ b = isAt (cutB ns k) k := by
  obtain ⟨As, Bs, rfl, hc, h⟩ := h
  rw [(cut_one hc).2]
  rcases h with ⟨E, T, rfl, rfl, _, rfl, rfl⟩ | ⟨hn, _, rfl, rfl⟩
  · simp [isAt, got]
  · obtain ⟨h1, h2⟩ := not_at hn
    exact ⟨h2.symm, h1.symm⟩
theorem kinds2 : 32 ≠ 65 ∧ 32 ≠ 62 ∧ 32 ≠ 59 := by decide
/-- A map, and the list that it is held against. -/
structure PlayAt (w : World) (B m : Nat) (H : Nd) (ns rs : List Nd) (va : Option Addr) (n2 vc j : Nat) (wr : World) : Prop where
  sk : ∃ mx, SkAt B m H mx ns wr
  row : wr.ownsRow B 32 2 (.slice va n2 vc) n2 (prs rs)
  cnt : ns.length ≤ j ∧ rs.length ≤ j
  bel : Below w.heap.size w wr
  base : w.heap.size ≤ B
section
variable {w wr : World} {B m : Nat} {H : Nd} {ns rs : List Nd} {va : Option Addr} {n2 vc j : Nat}
theorem PlayAt.under (h : PlayAt w B m H ns rs va n2 vc j wr) {w' : World} (k : Below wr.heap.size wr w') : PlayAt w B m H ns rs va n2 vc j w' := by
  obtain ⟨mx, hs⟩ := h.sk
  exact ⟨⟨mx, hs.under k⟩, row_stay h.row fun g hg => k.block g (h.row.lt g hg).2, h.cnt, below_mono h.bel k (Nat.le_refl _), h.base⟩
theorem PlayAt.so (h : PlayAt w B m H ns rs va n2 vc j wr) : ns.Pairwise fun a b => lt a.k b.k = true := by
  obtain ⟨mx, hs⟩ := h.sk
  exact hs.so
theorem PlayAt.len (h : PlayAt w B m H ns rs va n2 vc j wr) : n2 = rs.length := by
  have := h.row.1
  rw [prs_len] at this
  omega
theorem PlayAt.put (h : PlayAt w B m H ns rs va n2 vc j wr) (k : ByteArray) (v : Int) (hT : TzAt wr) (hg : 0 < B) (hl : j ≤ 1000) :
    Calls Tryd.prog 11 #[.pointer (some ⟨m, 0, none⟩), .string k, .int .i64 v] wr fun e w' => ∃ ns', e = .returned (.tuple #[.int .i64 (got (cutB ns k) k), .bool (isAt (cutB ns k) k)]) ∧ (∃ a b, PutR ns k v ns' a b) ∧ PlayAt w B m H ns' rs va n2 vc (j + 1) w' := by
  obtain ⟨mx, hs⟩ := h.sk
  refine (put_any hs k v hT hg hs.base (by have := h.cnt; omega)).mono fun e w' ⟨ns', mx', a, b, h1, h2, h3, h4, h5⟩ => ⟨ns', ?_, ⟨a, b, h2⟩, ⟨mx', h3⟩, hs.row h4 h.row kinds2, by have := h2.len; have := h.cnt; omega, hs.lift h4 h.base h.bel.size h.bel, h.base⟩
  rw [h1, ← h2.told.1, ← h2.told.2]
theorem PlayAt.del (h : PlayAt w B m H ns rs va n2 vc j wr) (k : ByteArray) (hl : j ≤ 1000) :
    Calls Tryd.prog 13 #[.pointer (some ⟨m, 0, none⟩), .string k] wr fun e w' => ∃ ns', e = .returned (.tuple #[.int .i64 (got (cutB ns k) k), .bool (isAt (cutB ns k) k)]) ∧ (∃ a b, DelR ns k ns' a b) ∧ PlayAt w B m H ns' rs va n2 vc (j + 1) w' := by
  obtain ⟨mx, hs⟩ := h.sk
  refine (del_any hs k (by have := h.cnt; omega)).mono fun e w' ⟨ns', a, b, h1, h2, h3, h4, h5⟩ => ⟨ns', ?_, ⟨a, b, h2⟩, ⟨mx, h3⟩, hs.row h4 h.row kinds2, ?_, hs.lift h4 h.base h.bel.size h.bel, h.base⟩
  · rw [h1, ← h2.told.1, ← h2.told.2]
  · have hc := h.cnt
    obtain ⟨As, Bs, rfl, _, ⟨E, T, rfl, _, rfl, _, _⟩ | ⟨_, rfl, _, _⟩⟩ := h2
    · simp at hc ⊢; omega
    · omega
theorem PlayAt.clear (h : PlayAt w B m H ns rs va n2 vc j wr) :
    Calls Tryd.prog 15 #[.pointer (some ⟨m, 0, none⟩)] wr fun e w' => e = .returned (.tuple #[]) ∧ PlayAt w B m H [] [] none 0 0 (j + 1) w' := by
  obtain ⟨mx, hs⟩ := h.sk
  exact (clear_any hs).mono fun e w' ⟨h1, h2, h3⟩ => ⟨h1, ⟨mx, h2⟩, World.ownsRow_nil _ _ _ _, ⟨by simp, by simp⟩, hs.lift h3 h.base h.bel.size h.bel, h.base⟩
theorem PlayAt.find (h : PlayAt w B m H ns ns va n2 vc j wr) (k : ByteArray) (hl : j ≤ 1000) :
    Calls Tryd.prog 10 #[.slice va n2 vc, .string k] wr fun e w' => e = .returned (.tuple #[.int .i64 (cutA ns k).length, .bool (isAt (cutB ns k) k)]) ∧ PlayAt w B m H ns ns va n2 vc j w' := by
  have hc := cut_two h.so k
  refine (find_any (As := cutA ns k) (Bs := cutB ns k) (by rw [← cut_join]; exact h.row) (by rw [← cut_join]; exact h.len) (by have := h.len; have := h.cnt; omega) k hc.1 hc.2).mono fun e w' ⟨h1, h2⟩ => ⟨h1, h.under h2⟩
theorem PlayAt.with_ {rs ns' : List Nd} (h : PlayAt w B m H ns' rs va n2 vc j wr) (k : ByteArray) (v : Int) (hp : ∃ a b, PutR rs k v ns' a b) (hl : j ≤ 1000) :
    Calls Tryd.prog 12 #[.slice va n2 vc, .string k, .int .i64 v] wr fun e w' => ∃ va' n' vc', e = .returned (.slice va' n' vc') ∧ PlayAt w B m H ns' ns' va' n' vc' j w' := by
  have hb : B ≤ wr.heap.size := by obtain ⟨mx, hs⟩ := h.sk; exact hs.base
  have hrow := h.row
  have hlen := h.len
  have hcnt := h.cnt
  obtain ⟨a, b, As, Bs, rfl, hc, hh⟩ := hp
  rcases hh with ⟨E, T, rfl, rfl, hns, _, _⟩ | ⟨hn, N, h1, h2, hns, _, _⟩
  · refine (with_any hrow hlen (by omega) E.k v hc hb ⟨E.b, E.nb, E.h, E.k, v⟩ ⟨rfl, rfl⟩).mono fun e w' ⟨va', n', vc', h1, h2, h3⟩ => ⟨va', n', vc', h1, ?_⟩
    have hu := h.under h3
    refine ⟨hu.sk, ?_, ⟨hu.cnt.1, hu.cnt.1⟩, hu.bel, h.base⟩
    rw [hns]
    simpa [isAt] using h2
  · refine (with_any hrow hlen (by omega) k v hc hb N ⟨h1, h2⟩).mono fun e w' ⟨va', n', vc', h1, h2, h3⟩ => ⟨va', n', vc', h1, ?_⟩
    have hu := h.under h3
    refine ⟨hu.sk, ?_, ⟨hu.cnt.1, hu.cnt.1⟩, hu.bel, h.base⟩
    rw [hns]
    rw [(not_at hn).1] at h2
    simpa using h2
theorem PlayAt.without {rs ns' : List Nd} (h : PlayAt w B m H ns' rs va n2 vc j wr) (k : ByteArray) (hp : ∃ a b, DelR rs k ns' a b) (hl : j ≤ 1000) :
    Calls Tryd.prog 14 #[.slice va n2 vc, .string k] wr fun e w' => ∃ va' n' vc', e = .returned (.slice va' n' vc') ∧ PlayAt w B m H ns' ns' va' n' vc' j w' := by
  have hb : B ≤ wr.heap.size := by obtain ⟨mx, hs⟩ := h.sk; exact hs.base
  have hrow := h.row
  have hlen := h.len
  have hcnt := h.cnt
  obtain ⟨a, b, As, Bs, rfl, hc, hh⟩ := hp
  refine (without_any hrow hlen (by omega) k hc hb).mono fun e w' ⟨va', n', vc', h1, h2, h3⟩ => ⟨va', n', vc', h1, ?_⟩
  have hu := h.under h3
  refine ⟨hu.sk, ?_, ⟨hu.cnt.1, hu.cnt.1⟩, hu.bel, h.base⟩
  rcases hh with ⟨E, T, rfl, rfl, hns, _, _⟩ | ⟨hn, hns, _, _⟩
  · rw [hns]; simpa [isAt] using h2
  · rw [hns]; rw [(not_at hn).1] at h2; simpa using h2
theorem PlayAt.looks (h : PlayAt w B m H ns ns va n2 vc j wr) (k : ByteArray) (hl : j ≤ 1000) :
    Calls Tryd.prog 16 #[.pointer (some ⟨m, 0, none⟩), .slice va n2 vc, .string k] wr fun e w' => e = .returned (.bool true) ∧ PlayAt w B m H ns ns va n2 vc j w' := by
  obtain ⟨mx, hs⟩ := h.sk
  have hc := cut_of (cut_two h.so k)
  refine (looks_any (As := cutA ns k) (Bs := cutB ns k) (by rw [← cut_join]; exact hs) (by rw [← cut_join]; exact h.row) (by rw [← cut_join]; exact h.len) (by have := h.len; have := h.cnt; omega) k hc).mono fun e w' ⟨h1, h2⟩ => ⟨h1, h.under h2⟩
/-- Where the value stands that a key has. -/
theorem PlayAt.value (h : PlayAt w B m H ns ns va n2 vc j wr) (k : ByteArray) (hq : isAt (cutB ns k) k = true) : ∃ b, va = some ⟨b, 0, none⟩ ∧ wr.cell? ⟨b, (cutA ns k).length * 2 + 1, none⟩ = some (.int .i64 (got (cutB ns k) k)) ∧ (cutA ns k).length < n2 := by
  cases hB : cutB ns k with
  | nil => rw [hB] at hq; cases hq
  | cons b T =>
    have hk : b.k = k := by rw [hB] at hq; simpa [isAt] using hq
    have hj : ns[(cutA ns k).length]? = some b := by
      have := cut_join ns k
      rw [hB] at this
      generalize cutA ns k = X at this ⊢
      rw [this]; simp
    obtain ⟨bb, h1, _, h2⟩ := pair_cells h.row h.len hj
    exact ⟨bb, h1, by rw [h2, got, if_pos hk], by rw [h.len]; exact (List.getElem?_eq_some_iff.1 hj).1⟩
theorem got_no {Bs : List Nd} {k : ByteArray} (h : isAt Bs k = false) : got Bs k = 0 := by
  cases Bs with
  | nil => rfl
  | cons b T => have hk : b.k ≠ k := by simpa [isAt] using h
                simp [got, hk]
end
end sk
end Go.Proofs.YtnganclkjoiggaaDoor
