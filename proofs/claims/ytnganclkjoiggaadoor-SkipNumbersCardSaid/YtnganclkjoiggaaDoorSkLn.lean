/- Put and Delete of any key; sorted lists of the same keys are the same. Conditions: those written at each theorem. -/
import Derived.Test.YtnganclkjoiggaaDoorSkIn
import Derived.Test.YtnganclkjoiggaaDoorSkFn
namespace Go.Proofs.YtnganclkjoiggaaDoor
open Go.RowKit Go.Maps Go.WideShapes
set_option linter.unusedVariables false
set_option linter.unusedSimpArgs false
namespace sn
def Cut2 (k : Int) (As Bs : List Nd) : Prop := (∀ n ∈ As, lt n.k k = true) ∧ ∀ n ∈ Bs, lt n.k k = false
theorem cut_of {k : Int} {As Bs : List Nd} (h : Cut2 k As Bs) : Cut false k As Bs := ⟨fun n hn => by simp [below, h.1 n hn], fun n hn => by simp [below, h.2 n hn]⟩
theorem cut_ex (k : Int) : ∀ ns : List Nd, (ns.Pairwise fun a b => lt a.k b.k = true) → ∃ As Bs, ns = As ++ Bs ∧ Cut2 k As Bs
  | [], _ => ⟨[], [], rfl, by simp, by simp⟩
  | n :: ns, h => by
    rw [List.pairwise_cons] at h
    cases hn : lt n.k k with
    | true =>
      obtain ⟨As, Bs, e, h1, h2⟩ := cut_ex k ns h.2
      refine ⟨n :: As, Bs, by rw [e]; rfl, fun x hx => ?_, h2⟩
      rcases List.mem_cons.1 hx with rfl | hx
      · exact hn
      · exact h1 x hx
    | false =>
      refine ⟨[], n :: ns, rfl, by simp, fun x hx => ?_⟩
      rcases List.mem_cons.1 hx with rfl | hx
      · exact hn
      · cases hx2 : lt x.k k with
        | false => rfl
        | true => rw [lt_trans (h.1 x hx) hx2] at hn; cases hn
/-- What stands behind, where the first one is not the key. -/
theorem above {k : Int} {As Bs : List Nd} (hc : Cut2 k As Bs) (so : (As ++ Bs).Pairwise fun a b => lt a.k b.k = true) : (∃ E T, Bs = E :: T ∧ E.k = k) ∨ ∀ x ∈ Bs, lt k x.k = true := by
  cases Bs with
  | nil => exact .inr (by simp)
  | cons b T =>
    by_cases hk : b.k = k
    · exact .inl ⟨b, T, rfl, hk⟩
    · right
      rw [List.pairwise_append, List.pairwise_cons] at so
      have hb := hc.2 b (List.mem_cons_self ..)
      have h3 : lt k b.k = true := by
        cases h : lt k b.k with
        | true => rfl
        | false => exact absurd (lt_tri hb h) hk
      intro x hx
      rcases List.mem_cons.1 hx with rfl | hx
      · exact h3
      · exact lt_trans h3 (so.2.1.1 x hx)
/-- What a Put makes of the nodes. -/
def PutR (ns : List Nd) (k : Int) (v : ByteArray) (ns' : List Nd) (a : ByteArray) (b : Bool) : Prop := ∃ As Bs, ns = As ++ Bs ∧ Cut2 k As Bs ∧
  ((∃ E T, Bs = E :: T ∧ E.k = k ∧ ns' = As ++ ⟨E.b, E.nb, E.h, E.k, v⟩ :: T ∧ a = E.v ∧ b = true) ∨ ((∀ x ∈ Bs, lt k x.k = true) ∧ ∃ N : Nd, N.k = k ∧ N.v = v ∧ ns' = As ++ N :: Bs ∧ a = ⟨#[]⟩ ∧ b = false))
def DelR (ns : List Nd) (k : Int) (ns' : List Nd) (a : ByteArray) (b : Bool) : Prop := ∃ As Bs, ns = As ++ Bs ∧ Cut2 k As Bs ∧
  ((∃ E T, Bs = E :: T ∧ E.k = k ∧ ns' = As ++ T ∧ a = E.v ∧ b = true) ∨ ((∀ x ∈ Bs, lt k x.k = true) ∧ ns' = ns ∧ a = ⟨#[]⟩ ∧ b = false))
theorem put_any {B m : Nat} {H : Nd} {mx : Int} {ns : List Nd} {w : World} (h : SkAt B m H mx ns w) (k : Int) (v : ByteArray) (hT : TzAt w) (hg : 0 < B) (hB : B ≤ w.heap.size) (hl : ns.length ≤ 1000000) :
    Calls Tryd.prog 19 #[.pointer (some ⟨m, 0, none⟩), .int .i64 k, .string v] w fun e w' => ∃ (ns' : List Nd) (mx' : Int) (a : ByteArray) (b : Bool), e = .returned (.tuple #[.string a, .bool b]) ∧ PutR ns k v ns' a b ∧ SkAt B m H mx' ns' w' ∧ Only (blks m H ns) w w' ∧ (∀ x ∈ blks m H ns', x ∈ blks m H ns ∨ w.heap.size ≤ x) := by
  obtain ⟨As, Bs, rfl, hc⟩ := cut_ex k ns h.so
  rcases above hc h.so with ⟨E, T, rfl, rfl⟩ | hn
  · refine (put_old h (cut_of hc) v).mono fun e w' ⟨h1, h2, h3⟩ => ⟨_, mx, E.v, true, h1, ⟨As, _, rfl, hc, .inl ⟨E, T, rfl, rfl, rfl, rfl, rfl⟩⟩, h2, h3, fun x hx => .inl ?_⟩
    have e0 : List.flatMap own (H :: (As ++ ⟨E.b, E.nb, E.h, E.k, v⟩ :: T)) = List.flatMap own (H :: (As ++ E :: T)) := by simp [List.flatMap_append, List.flatMap_cons, own]
    unfold blks at hx ⊢
    rwa [e0] at hx
  · refine (put_new h k (cut_of hc) hn v hT hg hB hl).mono fun e w' ⟨N, mx', h1, h2, h3, h4, h5, h6, h7⟩ => ⟨_, mx', ⟨#[]⟩, false, h1, ⟨As, Bs, rfl, hc, .inr ⟨hn, N, h2, h3, rfl, rfl, rfl⟩⟩, h6, h7, fun x hx => ?_⟩
    unfold blks at hx ⊢
    simp only [List.flatMap_append, List.flatMap_cons, List.mem_cons, List.mem_append, own, List.not_mem_nil, or_false] at hx ⊢
    rcases hx with hx | hx | hx | (hx | hx) | hx
    · exact .inl (.inl hx)
    · exact .inl (.inr (.inl hx))
    · exact .inl (.inr (.inr (.inl hx)))
    · exact .inr (by rw [hx]; exact h4)
    · exact .inr (by rw [hx]; exact h5)
    · exact .inl (.inr (.inr (.inr hx)))
theorem del_any {B m : Nat} {H : Nd} {mx : Int} {ns : List Nd} {w : World} (h : SkAt B m H mx ns w) (k : Int) (hl : ns.length ≤ 1000000) :
    Calls Tryd.prog 20 #[.pointer (some ⟨m, 0, none⟩), .int .i64 k] w fun e w' => ∃ (ns' : List Nd) (a : ByteArray) (b : Bool), e = .returned (.tuple #[.string a, .bool b]) ∧ DelR ns k ns' a b ∧ SkAt B m H mx ns' w' ∧ Only (blks m H ns) w w' ∧ (∀ x ∈ blks m H ns', x ∈ blks m H ns) := by
  obtain ⟨As, Bs, rfl, hc⟩ := cut_ex k ns h.so
  rcases above hc h.so with ⟨E, T, rfl, rfl⟩ | hn
  · exact (del_yes h (cut_of hc) hl).mono fun e w' ⟨h1, h2, h3, h4⟩ => ⟨_, E.v, true, h1, ⟨As, _, rfl, hc, .inl ⟨E, T, rfl, rfl, rfl, rfl, rfl⟩⟩, h2, h3, h4⟩
  · exact (del_no h k (cut_of hc) hn).mono fun e w' ⟨h1, h2⟩ => ⟨_, ⟨#[]⟩, false, h1, ⟨As, Bs, rfl, hc, .inr ⟨hn, rfl, rfl, rfl⟩⟩, h.under h2, Below.only h2 _, fun x hx => hx⟩
theorem PutR.keys {ns ns' : List Nd} {k : Int} {v a : ByteArray} {b : Bool} (h : PutR ns k v ns' a b) (x : Int) : x ∈ ns'.map (·.k) ↔ x = k ∨ x ∈ ns.map (·.k) := by
  obtain ⟨As, Bs, rfl, _, ⟨E, T, rfl, rfl, rfl, _, _⟩ | ⟨_, N, rfl, _, rfl, _, _⟩⟩ := h
  · simp only [List.map_append, List.map_cons, List.mem_append, List.mem_cons]
    constructor
    · rintro (h | h | h)
      · exact .inr (.inl h)
      · exact .inl h
      · exact .inr (.inr (.inr h))
    · rintro (h | h | h | h)
      · exact .inr (.inl h)
      · exact .inl h
      · exact .inr (.inl h)
      · exact .inr (.inr h)
  · simp only [List.map_append, List.map_cons, List.mem_append, List.mem_cons]
    constructor
    · rintro (h | h | h)
      · exact .inr (.inl h)
      · exact .inl h
      · exact .inr (.inr h)
    · rintro (h | h | h)
      · exact .inr (.inl h)
      · exact .inl h
      · exact .inr (.inr h)
theorem PutR.len {ns ns' : List Nd} {k : Int} {v a : ByteArray} {b : Bool} (h : PutR ns k v ns' a b) : ns'.length ≤ ns.length + 1 := by
  obtain ⟨As, Bs, rfl, _, ⟨E, T, rfl, rfl, rfl, _, _⟩ | ⟨_, N, rfl, _, rfl, _, _⟩⟩ := h
  · simp
  · simp; omega
/-- The table stands high above nothing: no store of a map turns it. -/
theorem SkAt.tz {B m : Nat} {H : Nd} {mx : Int} {ns : List Nd} {w w' : World} (h : SkAt B m H mx ns w) (k : Only (blks m H ns) w w') (hT : TzAt w) (hg : 0 < B) : TzAt w' := TzAt.only hT k fun hm => by have := h.lo _ hm; omega
theorem SkAt.lift {B m : Nat} {H : Nd} {mx : Int} {ns : List Nd} {w0 w w' : World} (h : SkAt B m H mx ns w) (k : Only (blks m H ns) w w') {B0 : Nat} (hB : B0 ≤ B) (h0 : B0 ≤ w.heap.size) (hb : Below B0 w0 w) : Below B0 w0 w' := k.below (fun x hx => Nat.le_trans hB (h.lo x hx)) h0 hb
/-- The types of a map's blocks. -/
theorem SkAt.kinds {B m : Nat} {H : Nd} {mx : Int} {ns : List Nd} {w : World} (h : SkAt B m H mx ns w) : ∀ x ∈ blks m H ns, ∃ cs t, w.heap[x]? = some (.cells cs t (0, 0)) ∧ (t = 75 ∨ t = 73 ∨ t = 70) := by
  intro x hx
  rcases List.mem_cons.1 hx with rfl | hx
  · exact ⟨_, _, h.hd, .inl rfl⟩
  · obtain ⟨n, hn, hx⟩ := List.mem_flatMap.1 hx
    obtain ⟨A, T, e⟩ := List.append_of_mem hn
    have := h.node e
    simp only [own, List.mem_cons, List.not_mem_nil, or_false] at hx
    rcases hx with rfl | rfl
    · exact ⟨_, _, this.1, .inr (.inl rfl)⟩
    · exact ⟨_, _, this.2, .inr (.inr rfl)⟩
theorem row_blk {B n : Nat} {e : TypeId} {z : Nat} {v : Value} {xs : List Value} {w : World} {g : Nat} (h : w.ownsRow B e z v n xs) (hg : v.ownBlock = some g) : ∃ cu, w.heap[g]? = some (.cells cu e (0, 0)) := by
  rcases h.2 with ⟨rfl, _⟩ | ⟨g2, cap, cur, rfl, _, hgg, _⟩
  · cases hg
  · simp only [Value.ownBlock, Option.some.injEq] at hg
    subst hg; exact ⟨cur, hgg⟩
/-- A map stays where a row of the walk's own grows, and the row where the map turns. -/
theorem SkAt.grown {B m : Nat} {H : Nd} {mx : Int} {ns : List Nd} {w w' : World} (h : SkAt B m H mx ns w) {B' n z : Nat} {e : TypeId} {v : Value} {xs : List Value} (hr : w.ownsRow B' e z v n xs) (he : e ≠ 75 ∧ e ≠ 73 ∧ e ≠ 70) (g : w.grownBy w' v.ownBlock) : SkAt B m H mx ns w' :=
  h.stay fun b hb => g.block b (h.lt b hb) fun e2 => by
    obtain ⟨cu, hcu⟩ := row_blk hr e2.symm
    obtain ⟨cs, t, h3, h4⟩ := h.kinds b hb
    rw [hcu] at h3
    injection h3 with h3
    injection h3 with _ h3 _
    subst h3
    rcases h4 with h4 | h4 | h4
    · exact he.1 h4
    · exact he.2.1 h4
    · exact he.2.2 h4
theorem SkAt.row {B m : Nat} {H : Nd} {mx : Int} {ns : List Nd} {w w' : World} (h : SkAt B m H mx ns w) (k : Only (blks m H ns) w w') {B' n z : Nat} {e : TypeId} {v : Value} {xs : List Value} (hr : w.ownsRow B' e z v n xs) (he : e ≠ 75 ∧ e ≠ 73 ∧ e ≠ 70) : w'.ownsRow B' e z v n xs :=
  row_stay hr fun g hg => k.block g (hr.lt g hg).2 fun hm => by
    obtain ⟨cu, hcu⟩ := row_blk hr hg
    obtain ⟨cs, t, h3, h4⟩ := h.kinds g hm
    rw [hcu] at h3
    injection h3 with h3
    injection h3 with _ h3 _
    subst h3
    rcases h4 with h4 | h4 | h4
    · exact he.1 h4
    · exact he.2.1 h4
    · exact he.2.2 h4
/-- Keys in order. -/
def Srt (l : List Int) : Prop := l.Pairwise fun a b => lt a b = true
theorem SkAt.srt {B m : Nat} {H : Nd} {mx : Int} {ns : List Nd} {w : World} (h : SkAt B m H mx ns w) : Srt (ns.map (·.k)) := by
  unfold Srt
  rw [List.pairwise_map]
  exact h.so
theorem srt_eq : ∀ {a b : List Int}, Srt a → Srt b → (∀ x, x ∈ a ↔ x ∈ b) → a = b
  | [], [], _, _, _ => rfl
  | [], y :: b, _, _, h => by have := (h y).2 (List.mem_cons_self ..); cases this
  | x :: a, [], _, _, h => by have := (h x).1 (List.mem_cons_self ..); cases this
  | x :: a, y :: b, ha, hb, h => by
    unfold Srt at ha hb
    rw [List.pairwise_cons] at ha hb
    have e : x = y := by
      rcases List.mem_cons.1 ((h x).1 (List.mem_cons_self ..)) with e | hx
      · exact e
      · rcases List.mem_cons.1 ((h y).2 (List.mem_cons_self ..)) with e | hy
        · exact e.symm
        · have h1 := hb.1 x hx
          have h2 := ha.1 y hy
          rw [lt_asymm h1] at h2; cases h2
    subst e
    congr 1
    refine srt_eq ha.2 hb.2 fun z => ⟨fun hz => ?_, fun hz => ?_⟩
    · rcases List.mem_cons.1 ((h z).1 (List.mem_cons_of_mem _ hz)) with e | hz2
      · subst e; have := ha.1 z hz; rw [lt_irrefl] at this; cases this
      · exact hz2
    · rcases List.mem_cons.1 ((h z).2 (List.mem_cons_of_mem _ hz)) with e | hz2
      · subst e; have := hb.1 z hz; rw [lt_irrefl] at this; cases this
      · exact hz2
end sn
end Go.Proofs.YtnganclkjoiggaaDoor
