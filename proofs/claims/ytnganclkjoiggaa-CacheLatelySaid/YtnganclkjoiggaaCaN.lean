/- A cache in memory: its block, its ring, its map. Conditions: those written at each theorem. -/
import Derived.Test.YtnganclkjoiggaaCaM
import Derived.Maps.OwnSet
import Derived.Maps.Ext
import Derived.Maps.Keyed
import Derived.Lib.Hide
namespace Go.Proofs.Ytnganclkjoiggaa
open Go.RowKit Go.Maps Go.WideShapes
set_option linter.unusedVariables false
set_option linter.unusedSimpArgs false

/-- Only these blocks have changed, and new ones may be there. -/
structure Only (F : List Nat) (w w' : World) : Prop where
  os : w'.os = w.os
  tape : w'.tape = w.tape
  output : w'.output = w.output
  size : w.heap.size ≤ w'.heap.size
  block : ∀ k, k < w.heap.size → k ∉ F → w'.heap[k]? = w.heap[k]?
theorem Only.refl (F : List Nat) (w : World) : Only F w w := ⟨rfl, rfl, rfl, Nat.le_refl _, fun _ _ _ => rfl⟩
theorem Only.trans {F G : List Nat} {w w1 w2 : World} (h : Only F w w1) (k : Only G w1 w2) (hg : ∀ x ∈ G, x ∈ F ∨ w.heap.size ≤ x) : Only F w w2 :=
  ⟨k.os.trans h.os, k.tape.trans h.tape, k.output.trans h.output, Nat.le_trans h.size k.size, fun x hx hn => (k.block x (Nat.lt_of_lt_of_le hx h.size) (fun hm => (hg x hm).elim hn (fun h => by omega))).trans (h.block x hx hn)⟩
theorem Only.mono {F G : List Nat} {w w' : World} (h : Only F w w') (hg : ∀ x ∈ F, x ∈ G) : Only G w w' := ⟨h.os, h.tape, h.output, h.size, fun k hk hn => h.block k hk (fun hm => hn (hg k hm))⟩
theorem Only.set {F : List Nat} {w w' : World} (h : Only F w w') {a : Addr} (ha : a.block ∈ F ∨ w.heap.size ≤ a.block) (v : Value) : Only F w (w'.setCell a v) :=
  ⟨h.os, h.tape, h.output, by simpa using h.size, fun k hk hn => by rw [Below.heap_setCell _ _ _ _ (fun e => ha.elim (fun hm => hn (by rw [e]; exact hm)) (fun hl => by omega))]; exact h.block k hk hn⟩
theorem Only.alloc {F : List Nat} {w w' : World} (h : Only F w w') (o : Obj) : Only F w (w'.alloc o) :=
  ⟨h.os, h.tape, h.output, Nat.le_trans h.size (by simp), fun k hk hn => by rw [Below.heap_alloc _ _ _ (Nat.lt_of_lt_of_le hk h.size)]; exact h.block k hk hn⟩
theorem Only.drew {F : List Nat} {w w' : World} (h : Only F w w') : Only F w w'.drew := ⟨h.os, h.tape, h.output, h.size, h.block⟩
theorem Only.drewN {F : List Nat} {w w' : World} (h : Only F w w') (n : Nat) : Only F w (w'.drewN n) := ⟨h.os, h.tape, h.output, h.size, h.block⟩
theorem Only.grown {F : List Nat} {w w' w2 : World} {r : Option Nat} (h : Only F w w') (g : w'.grownBy w2 r) (hr : ∀ k, r = some k → k ∈ F ∨ w.heap.size ≤ k) : Only F w w2 :=
  ⟨g.os.trans h.os, g.tape.trans h.tape, g.output.trans h.output, Nat.le_trans h.size g.size, fun k hk hn => (g.block k (Nat.lt_of_lt_of_le hk h.size) (fun e => (hr k e.symm).elim hn (fun hl => by omega))).trans (h.block k hk hn)⟩
theorem Only.below {F : List Nat} {w w' : World} (h : Only F w w') {B : Nat} (hF : ∀ x ∈ F, B ≤ x) (hB : B ≤ w.heap.size) {w0 : World} (h0 : Below B w0 w) : Below B w0 w' :=
  ⟨h.os.trans h0.os, h.tape.trans h0.tape, h.output.trans h0.output, Nat.le_trans h0.size h.size, fun k hk => (h.block k (by omega) (fun hm => by have := hF k hm; omega)).trans (h0.block k hk)⟩
theorem Below.only {w w' : World} (h : Below w.heap.size w w') (F : List Nat) : Only F w w' := ⟨h.os, h.tape, h.output, h.size, fun k hk _ => h.block k hk⟩
theorem Turned.other {w w' : World} {b : Nat} (h : w.mapTurned w' b) : (∀ k, k ≠ b → w'.heap[k]? = w.heap[k]?) ∧ w.heap.size ≤ w'.heap.size ∧ w'.os = w.os ∧ w'.tape = w.tape ∧ w'.output = w.output := by
  obtain ⟨es, c, es', c', hb, rfl⟩ := h
  exact ⟨fun k hk => Go.ChangeMaps.heap_setBlock_other hb _ hk, by simp [Go.ChangeMaps.setBlock], rfl, rfl, rfl⟩
theorem Turned.only {F : List Nat} {w w1 w' : World} {b : Nat} (h : w1.mapTurned w' b) (k : Only F w w1) (hb : b ∈ F) : Only F w w' := by
  obtain ⟨h1, h2, h3, h4, h5⟩ := Turned.other h
  refine k.trans (G := [b]) ⟨h3, h4, h5, h2, fun x hx hn => h1 x (fun e => hn (by simp [e]))⟩ (fun x hx => by simp at hx; subst hx; exact .inl hb)
/-- How a pointer in a map is read. -/
def rp : Value → Option (DataW Unit × List MemPlace)
  | .pointer (some ⟨b, 0, none⟩) => some (.lit (.int .i64 b), [])
  | .pointer none => some (.nil, [])
  | _ => none
theorem rp_at (b : Nat) : rp (.pointer (some ⟨b, 0, none⟩)) = some (.lit (.int .i64 b), []) := rfl
theorem rp_none : rp (.pointer none) = some (.nil, []) := rfl
theorem rp_inv {v : Value} {z : DataW Unit × List MemPlace} (h : rp v = some z) : (∃ b : Nat, v = .pointer (some ⟨b, 0, none⟩) ∧ z = (.lit (.int .i64 b), [])) ∨ (v = .pointer none ∧ z = (.nil, [])) := by
  unfold rp at h
  split at h
  · injection h with h; exact .inl ⟨_, rfl, h.symm⟩
  · injection h with h; exact .inr ⟨rfl, h.symm⟩
  · cases h


/-- The map of a cache: each key's entry's block. -/
def MapAt (kt : TypeId) (m N : Nat) (es : List En) (w : World) : Prop :=
  ∃ D : DataW Unit, w.ownsMap Try.prog kt rp m N D ∧ IsMap D ∧ (∀ kl, has D kl = true ↔ ∃ e ∈ es, e.kl = kl) ∧ ∀ e ∈ es, ∀ z, D.atKey e.kl z = .lit (.int .i64 e.b)
section
variable {kt et mt : TypeId} {m N : Nat} {es : List En} {w : World}
theorem MapAt.stay {w' : World} (h : MapAt kt m N es w) (hb : w'.heap[m]? = w.heap[m]?) : MapAt kt m N es w' := by
  obtain ⟨D, ⟨xs, clock, h1, F, h2, h3⟩, h4⟩ := h
  exact ⟨D, ⟨xs, clock, hb.trans h1, F, h2, h3⟩, h4⟩
theorem MapAt.lt (h : MapAt kt m N es w) : m < w.heap.size := by
  obtain ⟨D, h, _⟩ := h
  exact h.lt
theorem MapAt.mono {N' : Nat} (h : MapAt kt m N es w) (hN : N ≤ N') : MapAt kt m N' es w := by
  obtain ⟨D, h, h2⟩ := h
  exact ⟨D, h.mono hN, h2⟩
theorem MapAt.same {es' : List En} (h : MapAt kt m N es w) (he : ∀ (kl : Lit) (b : Nat), (∃ e ∈ es, e.kl = kl ∧ e.b = b) ↔ ∃ e ∈ es', e.kl = kl ∧ e.b = b) : MapAt kt m N es' w := by
  obtain ⟨D, h1, h2, h3, h4⟩ := h
  refine ⟨D, h1, h2, fun kl => (h3 kl).trans ⟨fun ⟨e, h, h'⟩ => ?_, fun ⟨e, h, h'⟩ => ?_⟩, fun e h z => ?_⟩
  · obtain ⟨e', g1, g2, _⟩ := (he kl e.b).1 ⟨e, h, h', rfl⟩
    exact ⟨e', g1, g2⟩
  · obtain ⟨e', g1, g2, _⟩ := (he kl e.b).2 ⟨e, h, h', rfl⟩
    exact ⟨e', g1, g2⟩
  · obtain ⟨e', g1, g2, g3⟩ := (he e.kl e.b).2 ⟨e, h, rfl, rfl⟩
    rw [← g2, ← g3]; exact h4 e' g1 z
theorem MapAt.look_yes (K : Keyed Try.prog kt) (ht : Try.prog.underlying mt = some (.map kt et)) (hz : (zeroValue et).run Try.prog w = .ok (.pointer none) w) (h : MapAt kt m N es w) {e : En} (he : e ∈ es) {key : Value} (hk : keyOf Try.prog kt key = some e.kl) :
    (Instr.lookup mt (.map (some m)) key true).run Try.prog w = .ok (.tuple #[pp e.b, .bool true]) w := by
  obtain ⟨D, h1, h2, h3, h4⟩ := h
  obtain ⟨v, ps, hrun, hv⟩ := h1.look_ok K ht hz rp_none hk
  rw [hrun, (h3 e.kl).2 ⟨e, he, rfl⟩]
  rw [h4 e he] at hv
  rcases rp_inv hv with ⟨b, rfl, hb⟩ | ⟨_, hb⟩
  · have := congrArg Prod.fst hb
    simp only [DataW.lit.injEq, Lit.int.injEq, true_and] at this
    have : e.b = b := by omega
    subst this; rfl
  · have := congrArg Prod.fst hb
    cases this
theorem MapAt.look_no (K : Keyed Try.prog kt) (ht : Try.prog.underlying mt = some (.map kt et)) (hz : (zeroValue et).run Try.prog w = .ok (.pointer none) w) (h : MapAt kt m N es w) {key : Value} {kl : Lit} (hk : keyOf Try.prog kt key = some kl) (hn : ∀ e ∈ es, e.kl ≠ kl) :
    (Instr.lookup mt (.map (some m)) key true).run Try.prog w = .ok (.tuple #[.pointer none, .bool false]) w := by
  obtain ⟨D, h1, h2, h3, h4⟩ := h
  obtain ⟨v, ps, hrun, hv⟩ := h1.look_ok K ht hz rp_none hk
  have hh : has D kl = false := by
    cases hd : has D kl with
    | false => rfl
    | true =>
      obtain ⟨e, he, e2⟩ := (h3 kl).1 hd
      exact absurd e2 (hn e he)
  rw [hrun, hh]
  rw [atKey_of_not_has hh] at hv
  rcases rp_inv hv with ⟨b, rfl, hb⟩ | ⟨rfl, hb⟩
  · have := congrArg Prod.fst hb
    cases this
  · rfl
theorem MapAt.store (K : Keyed Try.prog kt) (ht : Try.prog.underlying mt = some (.map kt et)) (h : MapAt kt m N es w) (hN : N < maxLen) (e : En) (hk : keyOf Try.prog kt e.k = some e.kl) (hn : ∀ x ∈ es, x.kl ≠ e.kl) :
    ∃ w', (Instr.mapUpdate mt (.map (some m)) e.k (pp e.b)).run Try.prog w = .ok () w' ∧ MapAt kt m (N + 1) (es ++ [e]) w' ∧ w.mapTurned w' m := by
  obtain ⟨D, h1, h2, h3, h4⟩ := h
  obtain ⟨w', hrun, h5, h6⟩ := h1.store K ht hN hk (rp_at e.b)
  refine ⟨w', hrun, ⟨_, h5, h2.put _ _, fun kl => ?_, fun x hx z => ?_⟩, h6⟩
  · by_cases hkl : kl = e.kl
    · subst hkl
      rw [has_put_same h2 (K.key hk)]
      simp
    · rw [has_put_other hkl, h3 kl]
      simp only [List.mem_append, List.mem_singleton]
      exact ⟨fun ⟨x, hx, e2⟩ => ⟨x, .inl hx, e2⟩, fun ⟨x, hx, e2⟩ => hx.elim (fun hx => ⟨x, hx, e2⟩) (fun hx => absurd (by rw [← e2, hx]) hkl)⟩
  · rcases List.mem_append.1 hx with hx | hx
    · rw [atKey_put_other (hn x hx)]; exact h4 x hx z
    · rw [List.mem_singleton] at hx; subst hx
      exact atKey_put_same h2 (K.key hk) _ _
theorem MapAt.drop {A B : List En} {e : En} (h : MapAt kt m N (A ++ e :: B) w) (hn : ∀ x ∈ A ++ B, x.kl ≠ e.kl) {w' : World} {D : DataW Unit} (hw : w'.ownsMap Try.prog kt rp m N (D.del e.kl)) (hD : w.ownsMap Try.prog kt rp m N D) : MapAt kt m N (A ++ B) w' := by
  obtain ⟨D2, ⟨xs, clock, g1, F, g2, g3⟩, h2, h3, h4⟩ := h
  obtain ⟨ys, clock2, f1, F2, f2, f3⟩ := hD
  rw [g1] at f1
  injection f1 with f1
  injection f1 with f1 f1'
  subst f1
  obtain rfl : D2 = D := g3.trans f3.symm
  have hsub : ∀ x ∈ A ++ B, x ∈ A ++ e :: B := fun x hx => by
    simp only [List.mem_append, List.mem_cons] at hx ⊢
    exact hx.elim .inl (fun h => .inr (.inr h))
  refine ⟨_, hw, h2.del _, fun kl => ?_, fun x hx z => ?_⟩
  · by_cases hkl : kl = e.kl
    · subst hkl
      rw [has_del_same]
      exact ⟨fun h => (by cases h), fun ⟨x, hx, e2⟩ => absurd e2 (hn x hx)⟩
    · rw [has_del_other hkl, h3 kl]
      refine ⟨fun ⟨x, hx, e2⟩ => ⟨x, ?_, e2⟩, fun ⟨x, hx, e2⟩ => ⟨x, hsub x hx, e2⟩⟩
      simp only [List.mem_append, List.mem_cons] at hx ⊢
      rcases hx with hx | hx | hx
      · exact .inl hx
      · subst hx; exact absurd e2.symm hkl
      · exact .inr hx
  · rw [atKey_del_other (hn x hx)]; exact h4 x (hsub x hx) z
end
/-- A cache whole. -/
structure CAt (tc te kt : TypeId) (B c m r N : Nat) (mo fo mi : Int) (es : List En) (w : World) : Prop where
  hd : CB tc c mo es.length fo mi m r w
  rg : Ring te r es w
  mp : MapAt kt m N es w
  ke : ∀ e ∈ es, keyOf Try.prog kt e.k = some e.kl
  ky : (es.map (·.kl)).Nodup
  lo : B ≤ c ∧ B ≤ m ∧ ∀ b ∈ r :: es.map (·.b), B ≤ b
/-- Its blocks. -/
def cblk (c m r : Nat) (es : List En) : List Nat := c :: m :: r :: es.map (·.b)
theorem CAt.stay {tc te kt : TypeId} {B c m r N : Nat} {mo fo mi : Int} {es : List En} {w w' : World} (h : CAt tc te kt B c m r N mo fo mi es w) (hb : ∀ b ∈ cblk c m r es, w'.heap[b]? = w.heap[b]?) : CAt tc te kt B c m r N mo fo mi es w' :=
  ⟨(hb c (by simp [cblk])).trans h.hd, h.rg.stay fun b hx => hb b (by simp only [cblk, List.mem_cons] at hx ⊢; exact .inr (.inr hx)), h.mp.stay (hb m (by simp [cblk])), h.ke, h.ky, h.lo⟩
theorem lt_of_heap {w : World} {k : Nat} {o : Obj} (h : w.heap[k]? = some o) : k < w.heap.size := (Array.getElem?_eq_some_iff.1 h).1
theorem CAt.lt {tc te kt : TypeId} {B c m r N : Nat} {mo fo mi : Int} {es : List En} {w : World} (h : CAt tc te kt B c m r N mo fo mi es w) : ∀ b ∈ cblk c m r es, B ≤ b ∧ b < w.heap.size := by
  intro b hb
  simp only [cblk] at hb
  rcases List.mem_cons.1 hb with rfl | hb
  · exact ⟨h.lo.1, lt_of_heap h.hd⟩
  · rcases List.mem_cons.1 hb with rfl | hb
    · exact ⟨h.lo.2.1, h.mp.lt⟩
    · obtain ⟨cs, _, hc⟩ := h.rg.of b hb
      exact ⟨h.lo.2.2 b hb, lt_of_heap hc⟩
theorem CAt.under {tc te kt : TypeId} {B c m r N : Nat} {mo fo mi : Int} {es : List En} {w w' : World} (h : CAt tc te kt B c m r N mo fo mi es w) (k : Below w.heap.size w w') : CAt tc te kt B c m r N mo fo mi es w' :=
  h.stay fun b hb => k.block b (h.lt b hb).2
theorem CB.turn {t : TypeId} {c m r : Nat} {mo n fo mi : Int} {w : World} (h : CB t c mo n fo mi m r w) (k : Int) : CB t c mo k fo mi m r (w.setCell ⟨c, 1, none⟩ (.int .i64 k)) := set_same _ h
theorem CB.far {t : TypeId} {c m r : Nat} {mo n fo mi : Int} {w : World} (h : CB t c mo n fo mi m r w) (b i : Nat) (v : Value) (hb : b ≠ c) : CB t c mo n fo mi m r (w.setCell ⟨b, i, none⟩ v) := (set_other _ _ _ _ (Ne.symm hb)).trans h
theorem CB.draw {t : TypeId} {c m r : Nat} {mo n fo mi : Int} {w : World} (h : CB t c mo n fo mi m r w) (d : Nat) : CB t c mo n fo mi m r (w.drewN d) := h
theorem Ring.draw {t : TypeId} {r : Nat} {es : List En} {w : World} (h : Ring t r es w) (d : Nat) : Ring t r es (w.drewN d) := h.stay fun _ _ => rfl
theorem Ring.far {t : TypeId} {r : Nat} {es : List En} {w : World} (h : Ring t r es w) (b i : Nat) (v : Value) (hb : ∀ x ∈ r :: es.map (·.b), x ≠ b) : Ring t r es (w.setCell ⟨b, i, none⟩ v) := h.stay fun x hx => set_other _ _ _ _ (hb x hx)
theorem CAt.new (tc te kt : TypeId) (w : World) (mo : Int) (kz vz : Value) :
    CAt tc te kt w.heap.size (w.heap.size + 1 + 1) (w.heap.size + 1) w.heap.size 0 mo 0 0 []
      (((w.alloc (.cells #[kz, vz, pp w.heap.size, pp w.heap.size] te)).alloc (.map #[] 0)).alloc (.cells #[.int .i64 mo, .int .i64 0, .int .i64 0, .int .i64 0, .map (some (w.heap.size + 1)), pp w.heap.size] tc)) := by
  have h0 := heap_alloc_new w (.cells #[kz, vz, pp w.heap.size, pp w.heap.size] te)
  have hs1 : (w.alloc (.cells #[kz, vz, pp w.heap.size, pp w.heap.size] te)).heap.size = w.heap.size + 1 := by simp
  have h1 : ((w.alloc (.cells #[kz, vz, pp w.heap.size, pp w.heap.size] te)).alloc (.map #[] 0)).heap[w.heap.size]? = some (.cells #[kz, vz, pp w.heap.size, pp w.heap.size] te (0, 0)) := by
    rw [Below.heap_alloc _ _ _ (by rw [hs1]; omega)]; exact h0
  have hm := World.ownsMap_made (w.alloc (.cells #[kz, vz, pp w.heap.size, pp w.heap.size] te)) Try.prog kt rp
  rw [hs1] at hm
  generalize hW1 : (w.alloc (.cells #[kz, vz, pp w.heap.size, pp w.heap.size] te)).alloc (.map #[] 0) = W1 at *
  have hs2 : W1.heap.size = w.heap.size + 1 + 1 := by rw [← hW1]; simp
  have h2 := heap_alloc_new W1 (.cells #[.int .i64 mo, .int .i64 0, .int .i64 0, .int .i64 0, .map (some (w.heap.size + 1)), pp w.heap.size] tc)
  rw [hs2] at h2
  have h3 : (W1.alloc (.cells #[.int .i64 mo, .int .i64 0, .int .i64 0, .int .i64 0, .map (some (w.heap.size + 1)), pp w.heap.size] tc)).heap[w.heap.size]? = some (.cells #[kz, vz, pp w.heap.size, pp w.heap.size] te (0, 0)) := by
    rw [Below.heap_alloc _ _ _ (by rw [hs2]; omega)]; exact h1
  refine ⟨h2, ⟨fun b hb => ?_, fun e he => (by cases he), ⟨⟨cell_blk h3 3, cell_blk h3 2⟩, trivial⟩, by simp⟩, ?_, fun e he => (by cases he), by simp, by omega, by omega, fun b hb => ?_⟩
  · simp only [List.map_nil, List.mem_singleton] at hb
    subst hb
    exact ⟨_, rfl, h3⟩
  · refine ⟨_, hm.alloc _, isMap_empty, fun kl => ?_, fun e he => (by cases he)⟩
    constructor
    · intro h; cases h
    · rintro ⟨e, he, _⟩; cases he
  · simp only [List.map_nil, List.mem_singleton] at hb
    omega
theorem wpList_upd {w w' : World} {ops : Array Oper} {rest : List Oper} {o : Oper} {a : Act} {Q : Exit → Act → World → Prop} (hgd : o.guard = none) (m x v : Operand) (t : TypeId)
    (ho : o.op = Op.mapUpdate t m x v) (mv key val : Value) (hm : a.eval m = mv) (hx : a.eval x = key) (hv : a.eval v = val)
    (hr : (Instr.mapUpdate t mv key val).run Try.prog w = .ok () w') (h : wpList Try.prog ops Q rest (a.put o.dst undef) w') : wpList Try.prog ops Q (o :: rest) a w := by
  refine wpList_plain hgd fun K hK => ?_
  unfold Oper.wp
  simp [execOp, ho, hm, hx, hv, hr, Result.andThen]
  exact hK _ _ h
/-- All blocks of cells but those of two types are as they were. -/
def Oth (tc te : TypeId) (w w' : World) : Prop := ∀ (k : Nat) (cs : Array Value) (t : TypeId), w.heap[k]? = some (Obj.cells cs t (0, 0)) → t ≠ tc → t ≠ te → w'.heap[k]? = w.heap[k]?
section
variable {tc te : TypeId} {w w' w2 : World}
theorem Oth.refl (tc te : TypeId) (w : World) : Oth tc te w w := fun _ _ _ _ _ _ => rfl
theorem Oth.trans (h : Oth tc te w w') (k : Oth tc te w' w2) : Oth tc te w w2 := fun x cs t hx h1 h2 => (k x cs t ((h x cs t hx h1 h2).trans hx) h1 h2).trans (h x cs t hx h1 h2)
theorem Oth.drewN (h : Oth tc te w w') (n : Nat) : Oth tc te w (w'.drewN n) := h
theorem Oth.alloc (h : Oth tc te w w') (o : Obj) : Oth tc te w (w'.alloc o) := fun x cs t hx h1 h2 => by
  have h3 := h x cs t hx h1 h2
  rw [Below.heap_alloc _ _ _ (lt_of_heap (h3.trans hx))]; exact h3
theorem Oth.turned {b : Nat} (h : w.mapTurned w' b) : Oth tc te w w' := fun x cs t hx _ _ => by
  obtain ⟨es, c, _, _, hb, _⟩ := id h
  refine (Turned.other h).1 x fun e => ?_
  subst e
  rw [hb] at hx; cases hx
theorem Oth.only {F : List Nat} (h : Only F w w') (hF : ∀ x ∈ F, (∃ cs, w.heap[x]? = some (.cells cs tc (0, 0))) ∨ ∃ cs, w.heap[x]? = some (.cells cs te (0, 0))) : Oth tc te w w' := fun x cs t hx h1 h2 =>
  h.block x (lt_of_heap hx) fun hm => by
    rcases hF x hm with ⟨c2, h3⟩ | ⟨c2, h3⟩
    · have := hx.symm.trans h3
      injection this with this
      injection this with _ this _
      exact h1 this
    · have := hx.symm.trans h3
      injection this with this
      injection this with _ this _
      exact h2 this
theorem Oth.cache {c r m : Nat} {mo k fo mi : Int} {l : List Nat} (hc : CB tc c mo k fo mi m r w) (hr : ∀ x ∈ l, Of te 4 x w) (h : Only (c :: l) w w') : Oth tc te w w' :=
  Oth.only h fun x hx => by
    rcases List.mem_cons.1 hx with rfl | hx
    · exact .inl ⟨_, hc⟩
    · obtain ⟨cs, _, hb⟩ := hr x hx
      exact .inr ⟨cs, hb⟩
theorem Oth.row {B n z : Nat} {e : TypeId} {v : Value} {xs : List Value} (h : Oth tc te w w') (h1 : e ≠ tc) (h2 : e ≠ te) (hr : w.ownsRow B e z v n xs) : w'.ownsRow B e z v n xs := by
  refine ⟨hr.1, ?_⟩
  rcases hr.2 with hn | ⟨g, cap, cur, hv, hb, hgg, rest⟩
  · exact .inl hn
  · exact .inr ⟨g, cap, cur, hv, hb, (h g cur e hgg h1 h2).trans hgg, rest⟩
end
end Go.Proofs.Ytnganclkjoiggaa
