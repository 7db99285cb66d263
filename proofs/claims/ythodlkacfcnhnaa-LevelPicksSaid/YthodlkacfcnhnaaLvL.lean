/- Layer 15: how much a level has, over how much it may have. Conditions: those written at each theorem. -/
import Derived.Test.YthodlkacfcnhnaaLvK
import Derived.Test.YthodlkacfcnhnaaNuS
import Derived.Test.YthodlkacfcnhnaaRaC
namespace Go.Proofs.Ythodlkacfcnhnaa
open Go.RowKit Go.Sort
set_option linter.unusedVariables false
set_option linter.unusedSimpArgs false
theorem int64Info : (Try.prog.info? 2).map (fun i => (i.zero, i.size, i.bytes)) = some (some (.int .i64 0), 1, 8) := by kernel_rfl
/-- append(l, n), at a slice of the walk's own with one int64. -/
theorem wpList_app64 {w : World} {ops : Array Oper} {rest : List Oper} {o : Oper} {a : Act} {Q : Exit → Act → World → Prop} (hgd : o.guard = none) (s x : Operand)
    (ho : o.op = .call { callee := .builtin .append, args := #[s, x], argTypes := #[92, 92] })
    (B : Nat) (v : Value) (n : Nat) (l : List Int) (f : Int) (hs : a.eval s = v) (hown : w.ownsRow B 2 1 v n (ivs l)) (g : Nat) (hx : a.eval x = .slice (some ⟨g, 0, none⟩) 1 1)
    (hc : w.cell? ⟨g, 0, none⟩ = some (.int .i64 f)) (hl : n ≤ 1000) (hB : B ≤ w.heap.size)
    (h : ∀ v' w', w'.ownsRow B 2 1 v' (n + 1) (ivs (l ++ [f])) → w.grownBy w' v.ownBlock → wpList Try.prog ops Q rest (a.put o.dst v') w') :
    wpList Try.prog ops Q (o :: rest) a w := by
  obtain ⟨i, hi, hz0, hz1, hz2⟩ := info_parts int64Info
  refine wpList_append_own w hgd s x 92 ho B 2 i (.int .i64 0) 1 8 Try.underlying92 hi hz0 hz1 hz2 rfl (by decide) v n (ivs l) hs hown ⟨g, 0, none⟩ 1 1 [.int .i64 f] hx rfl ?_ ?_ ?_ ?_ hB ?_
  · intro j u hj
    match j, hj with
    | 0, hj => simp at hj; subst hj; exact hc
  · intro u hu
    simp at hu
    subst hu
    rfl
  · unfold maxLen; omega
  · omega
  · intro v' w' h1 h2 _
    refine h v' w' ?_ h2
    have e : ivs (l ++ [f]) = ivs l ++ [.int .i64 f] := by simp [ivs]
    rw [e]
    exact h1

abbrev verV (lg nx sq : Int) (bo : Option Addr) (k c : Nat) : Value := .agg #[.int .i64 lg, .int .i64 nx, .int .i64 sq, .slice bo k c]
/-- The boxes of score. -/
structure ScAt (w0 : World) (lg nx sq : Int) (bo : Option Addr) (k c : Nat) (p q r s : Int) (W : World) : Prop where
  ver : W.heap[w0.heap.size]? = some (.cells #[.int .i64 lg, .int .i64 nx, .int .i64 sq, .slice bo k c] 34 (0, 0))
  cfg : W.heap[w0.heap.size + 1]? = some (.cells #[.int .i64 p, .int .i64 q, .int .i64 r, .int .i64 s] 23 (0, 0))
  rat : W.heap[w0.heap.size + 2]? = some (.cells #[.int .i64 0, .int .i64 0] 74 (0, 0))
  bel : Below w0.heap.size w0 W
theorem ScAt.next {w0 : World} {lg nx sq : Int} {bo : Option Addr} {k c : Nat} {p q r s : Int} {W W' : World} (h : ScAt w0 lg nx sq bo k c p q r s W) (g : Below W.heap.size W W') : ScAt w0 lg nx sq bo k c p q r s W' :=
  ⟨(g.block _ (lt_of_heap h.ver)).trans h.ver, (g.block _ (lt_of_heap h.cfg)).trans h.cfg, (g.block _ (lt_of_heap h.rat)).trans h.rat, below_mono h.bel g (Nat.le_refl _)⟩
theorem ScAt.made (w0 : World) (lg nx sq : Int) (bo : Option Addr) (k c : Nat) (p q r s : Int) : ScAt w0 lg nx sq bo k c p q r s (((w0.alloc (.cells #[.int .i64 lg, .int .i64 nx, .int .i64 sq, .slice bo k c] 34)).alloc (.cells #[.int .i64 p, .int .i64 q, .int .i64 r, .int .i64 s] 23)).alloc (.cells #[.int .i64 0, .int .i64 0] 74)) := by
  have h1 : (w0.alloc (.cells #[.int .i64 lg, .int .i64 nx, .int .i64 sq, .slice bo k c] 34)).heap.size = w0.heap.size + 1 := by simp
  have a1 := heap_alloc_new w0 (.cells #[.int .i64 lg, .int .i64 nx, .int .i64 sq, .slice bo k c] 34)
  have k1 := (Below.refl w0.heap.size w0).alloc (Nat.le_refl _) (.cells #[.int .i64 lg, .int .i64 nx, .int .i64 sq, .slice bo k c] 34)
  generalize (w0.alloc (.cells #[.int .i64 lg, .int .i64 nx, .int .i64 sq, .slice bo k c] 34)) = X1 at *
  have h2 : (X1.alloc (.cells #[.int .i64 p, .int .i64 q, .int .i64 r, .int .i64 s] 23)).heap.size = w0.heap.size + 2 := by simp [h1]
  have a2 := heap_alloc_new X1 (.cells #[.int .i64 p, .int .i64 q, .int .i64 r, .int .i64 s] 23)
  have k2 := (Below.refl X1.heap.size X1).alloc (Nat.le_refl _) (.cells #[.int .i64 p, .int .i64 q, .int .i64 r, .int .i64 s] 23)
  generalize (X1.alloc (.cells #[.int .i64 p, .int .i64 q, .int .i64 r, .int .i64 s] 23)) = X2 at *
  have a3 := heap_alloc_new X2 (.cells #[.int .i64 0, .int .i64 0] 74)
  have k3 := (Below.refl X2.heap.size X2).alloc (Nat.le_refl _) (.cells #[.int .i64 0, .int .i64 0] 74)
  rw [h1] at a2
  rw [h2] at a3
  exact ⟨(k3.block _ (by omega)).trans ((k2.block _ (by omega)).trans a1), (k3.block _ (by omega)).trans a2, a3, below_mono (below_mono k1 k2 (Nat.le_refl _)) k3 (Nat.le_refl _)⟩
theorem two_cells {w : World} {k : Nat} {c0 c1 : Value} {t : TypeId} (h : w.heap[k]? = some (.cells #[c0, c1] t (0, 0))) : w.cell? ⟨k, 0, none⟩ = some c0 ∧ w.cell? ⟨k, 1, none⟩ = some c1 := ⟨cell_blk h 0, cell_blk h 1⟩
def scN (L : List Fl) (n : Nat) : Int := if n = 0 then ((L.filter (byLvl 0)).length : Int) else ((L.filter (byLvl n)).map Fl.sz).sum
def scD (p q r : Int) (n : Nat) : Int := if n = 0 then p else q * r ^ (n - 1)
set_option maxRecDepth 100000 in
set_option maxHeartbeats 8000000 in
theorem score_zero {B : Nat} {lg nx sq : Int} {bo : Option Addr} {c : Nat} {L : List Fl} {w : World} (h : FlAt B bo L w) (hB : B ≤ w.heap.size) (hc : L.length ≤ c) (hl : L.length ≤ 39) (hs : Srt L) (p q r s : Int) :
    Calls Try.prog 34 #[verV lg nx sq bo L.length c, cfgV p q r s, .int .i64 0] w fun e w' => e = .returned (.agg #[.int .i64 (scN L 0), .int .i64 p]) ∧ Below w.heap.size w w' := by
  have CL : Hid (∀ W, Below w.heap.size w W → Calls Try.prog 31 #[verV lg nx sq bo L.length c, .int .i64 0] W fun e w' => Got W (L.filter (byLvl 0)) e w' ∧ Below W.heap.size W w') := Lib.hid fun W hW => level_any (h.under (hW.mono hB)) (by have := hW.size; omega) hc hl hs 0
  obtain ⟨n, hn⟩ : ∃ n : Nat, n = (L.filter (byLvl 0)).length := ⟨_, rfl⟩
  have HN : Hid (scN L 0 = (n : Int)) := Lib.hid (by rw [hn]; rfl)
  have HN2 := Lib.hid hn
  obtain ⟨k, hk⟩ : ∃ k, k = L.length := ⟨_, rfl⟩
  rw [← hk] at CL ⊢
  rw [HN.out]
  clear h hB hc hl hs hk hn HN
  have HM := Lib.hid (ScAt.made w lg nx sq bo k c p q r s)
  obtain ⟨z, hz⟩ : ∃ z, z = w.heap.size := ⟨_, rfl⟩
  obtain ⟨y, hy⟩ : ∃ y, y = w.heap.size + 1 := ⟨_, rfl⟩
  obtain ⟨x, hx⟩ : ∃ x, x = w.heap.size + 2 := ⟨_, rfl⟩
  have HZ := Lib.hid (And.intro hz (And.intro hy hx))
  go_enter Try.func34, Try.ntmps34
  go_upto_region 1 with fail
  refine wp_letter (fun W => ScAt w lg nx sq bo k c p q r s W) HM.out ?_
  clear HM
  intro W hT
  have HT := Lib.hid hT
  rw [show w.heap.size + 1 + 1 = x from by omega, ← hy, ← hz]
  obtain ⟨v0, v1, v2, v3⟩ := four_cells hT.ver
  rw [← hz] at v0 v1 v2 v3
  clear hz hy hx hT
  go_upto_region 2 with (go_at_call 31; (with_reducible refine (CL.out _ HT.out.bel).mono ?_); rintro e w1 ⟨⟨ao, cc, rfl, hcc, hfl, hne⟩, hb⟩; have HT1 := Lib.hid (HT.out.next hb); rw [← HN2.out]; clear hb hcc hfl hne v0 v1 v2 v3 CL HT)
  have b := HT1.out.rat
  rw [← HZ.out.2.2] at b
  obtain ⟨d0, d1⟩ := two_cells b
  have p0 : w1.frozen? ⟨x, 0, none⟩ = false := free_blk b 0
  have p1 : w1.frozen? ⟨x, 1, none⟩ = false := free_blk b 1
  have HL := Lib.hid (lt_of_heap b)
  have bc := HT1.out.cfg
  rw [← HZ.out.2.1] at bc
  obtain ⟨u0, u1, u2, u3⟩ := four_cells bc
  clear b bc
  go_wp2_with fail
  exact bodyPost_ret (v := .agg #[.int .i64 n, .int .i64 p]) (by simp [results, Try.results34, go_sem, d0, d1, p0, p1, HL.out]) rfl ⟨rfl, (HT1.out.bel.setCell (p := ⟨x, 0, none⟩) (by have := HZ.out.2.2; simp; omega) _).setCell (p := ⟨x, 1, none⟩) (by have := HZ.out.2.2; simp; omega) _⟩
theorem pow_in {q r : Int} (q0 : 1 ≤ q) (q1 : q ≤ 1048576) (r0 : 2 ≤ r) (r1 : r ≤ 20) (k : Nat) (hk : k ≤ 2) : 1 ≤ q * r ^ k ∧ q * r ^ k ≤ 419430400 := by
  match k, hk with
  | 0, _ =>
    rw [Int.pow_zero, Int.mul_one]
    omega
  | 1, _ =>
    rw [Int.pow_succ, Int.pow_zero, Int.one_mul]
    constructor
    · exact Int.le_trans (by omega) (Int.mul_le_mul q0 (show (1 : Int) ≤ r by omega) (by omega) (by omega))
    · exact Int.le_trans (Int.mul_le_mul q1 r1 (by omega) (by omega)) (by omega)
  | 2, _ =>
    have h2 : 1 ≤ r ^ 2 ∧ r ^ 2 ≤ 400 := by
      rw [Int.pow_succ, Int.pow_succ, Int.pow_zero, Int.one_mul]
      constructor
      · exact Int.le_trans (by omega) (Int.mul_le_mul (show (1 : Int) ≤ r by omega) (show (1 : Int) ≤ r by omega) (by omega) (by omega))
      · exact Int.le_trans (Int.mul_le_mul r1 r1 (by omega) (by omega)) (by omega)
    constructor
    · exact Int.le_trans (by omega) (Int.mul_le_mul q0 h2.1 (by omega) (by omega))
    · exact Int.le_trans (Int.mul_le_mul q1 h2.2 (by omega) (by omega)) (by omega)
theorem sum_in : ∀ (l : List Int), (∀ x ∈ l, 0 ≤ x ∧ x ≤ 1048576) → 0 ≤ l.sum ∧ l.sum ≤ 1048576 * l.length
  | [], _ => by simp
  | x :: l, h => by
    have h1 := sum_in l fun y hy => h y (List.mem_cons_of_mem _ hy)
    have h2 := h x (List.mem_cons_self ..)
    simp only [List.sum_cons, List.length_cons]
    omega
set_option maxRecDepth 100000 in
set_option maxHeartbeats 8000000 in
theorem score_more {B : Nat} {lg nx sq : Int} {bo : Option Addr} {c : Nat} {L : List Fl} {w : World} (h : FlAt B bo L w) (hB : B ≤ w.heap.size) (hc : L.length ≤ c) (hl : L.length ≤ 39) (hs : Srt L) (hz : ∀ f ∈ L, 0 ≤ f.sz ∧ f.sz ≤ 1048576) (p q r s : Int) (q0 : 1 ≤ q) (q1 : q ≤ 1048576) (r0 : 2 ≤ r) (r1 : r ≤ 20) (n : Nat) (hn0 : 1 ≤ n) (hn3 : n ≤ 3) :
    Calls Try.prog 34 #[verV lg nx sq bo L.length c, cfgV p q r s, .int .i64 n] w fun e w' => e = .returned (.agg #[.int .i64 (scN L n), .int .i64 (scD p q r n)]) ∧ Below w.heap.size w w' := by
  have CL : Hid (∀ W, Below w.heap.size w W → Calls Try.prog 31 #[verV lg nx sq bo L.length c, .int .i64 n] W fun e w' => Got W (L.filter (byLvl n)) e w' ∧ Below W.heap.size W w') := Lib.hid fun W hW => level_any (h.under (hW.mono hB)) (by have := hW.size; omega) hc hl hs n
  obtain ⟨l, hl0⟩ : ∃ l, l = L.filter (byLvl n) := ⟨_, rfl⟩
  obtain ⟨m, hm⟩ : ∃ m, m = l.length := ⟨_, rfl⟩
  have hm39 : m ≤ 39 := by rw [hm, hl0]; exact Nat.le_trans (List.length_filter_le _ _) hl
  have HSZ : Hid (∀ x ∈ l.map Fl.sz, 0 ≤ x ∧ x ≤ 1048576) := Lib.hid (by
    intro x hx
    obtain ⟨f, hf, rfl⟩ := List.mem_map.1 hx
    rw [hl0] at hf
    exact hz f (List.mem_filter.1 hf).1)
  obtain ⟨T, hT0⟩ : ∃ T, T = (l.map Fl.sz).sum := ⟨_, rfl⟩
  have HSN : Hid (scN L n = T) := Lib.hid (by rw [hT0, hl0]; unfold scN; rw [if_neg (by omega)])
  have HTI : Hid (0 ≤ T ∧ T ≤ 40894464) := Lib.hid (by
    have := sum_in _ HSZ.out
    rw [List.length_map, ← hm, ← hT0] at this
    omega)
  have HTE := Lib.hid hT0
  have HSD : Hid (scD p q r n = q * r ^ (n - 1)) := Lib.hid (by unfold scD; rw [if_neg (by omega)])
  rw [HSN.out, HSD.out]
  have HPW := Lib.hid (fun k hk => pow_in q0 q1 r0 r1 k hk)
  have HN := Lib.hid hm
  rw [← hl0] at CL
  obtain ⟨k, hk⟩ : ∃ k, k = L.length := ⟨_, rfl⟩
  rw [← hk] at CL ⊢
  clear h hB hc hl hs hk hl0 hm hT0 HSN HSD hz q0 q1 r0 r1
  have e1 : IntKind.i64.wrap ((n : Int) - 1) = ((n - 1 : Nat) : Int) := (IntWalk.i64_in _ (by omega)).trans (by omega)
  have e2 : ¬ (n : Int) = 0 := by omega
  have e3 : ((n : Int) == 0) = false := by simpa using e2
  have HM := Lib.hid (ScAt.made w lg nx sq bo k c p q r s)
  obtain ⟨z, hz⟩ : ∃ z, z = w.heap.size := ⟨_, rfl⟩
  obtain ⟨y, hy⟩ : ∃ y, y = w.heap.size + 1 := ⟨_, rfl⟩
  obtain ⟨x, hx⟩ : ∃ x, x = w.heap.size + 2 := ⟨_, rfl⟩
  have HZ := Lib.hid (And.intro hz (And.intro hy hx))
  go_enter Try.func34, Try.ntmps34
  go_upto_region 1 with fail
  refine wp_letter (fun W => ScAt w lg nx sq bo k c p q r s W) HM.out ?_
  clear HM
  intro W hT
  have HT := Lib.hid hT
  rw [show w.heap.size + 1 + 1 = x from by omega, ← hy, ← hz]
  obtain ⟨v0, v1, v2, v3⟩ := four_cells hT.ver
  rw [← hz] at v0 v1 v2 v3
  clear hz hy hx hT
  go_upto_region 2 with (go_at_call 31; (with_reducible refine (CL.out _ HT.out.bel).mono ?_); rintro e w1 ⟨⟨ao, cc, rfl, hcc, hfl, hne⟩, hb⟩; have HT1 := Lib.hid (HT.out.next hb); have HN2 := HN; rw [← HN2.out]; rw [← HN2.out] at hcc; have HFL := Lib.hid hfl; clear hb hfl hne v0 v1 v2 v3 CL HT)
  go_upto_region 6 with fail
  go_loopw [8, 26] (fun v i wr => ∃ j : Nat, j ≤ m ∧ i = .int .i64 j ∧ Hid (wr.ownsRow w1.heap.size 2 1 v j (ivs ((l.take j).map Fl.sz))) ∧ Hid (Below w1.heap.size w1 wr)) (fun _ i _ => m - (intOf i).toNat)
  case atStart => exact ⟨0, by omega, rfl, Lib.hid (World.ownsRow_nil w1 w1.heap.size 2 1), Lib.hid (Below.refl _ _)⟩
  case round =>
    obtain ⟨j, hj, rfl, HR, HB⟩ := hrel
    obtain ⟨va, vc, rfl⟩ := row_form HR.out
    by_cases hlt : j < m
    · have hpos : 0 < l.length := by rw [← HN.out]; omega
      obtain ⟨a, rfl⟩ := HFL.out.there hpos
      obtain ⟨f, hf⟩ : ∃ f, l[j]? = some f := ⟨_, List.getElem?_eq_getElem (by rw [← HN.out]; exact hlt)⟩
      obtain ⟨c0, c1, c2, c3, c4, c5⟩ := ((HFL.out.under HB.out).cells a rfl hpos).2 j f hf
      have HTK : Hid ((l.take (j + 1)).map Fl.sz = (l.take j).map Fl.sz ++ [f.sz]) := Lib.hid (by rw [List.take_add_one, hf]; simp)
      have HNW := Lib.hid (six_cells (heap_alloc_new wr (.cells #[.int .i64 f.num, .int .i64 f.lvl, .string f.fst, .string f.lst, .int .i64 f.cnt, .int .i64 f.sz] 60)))
      have HB1 := Lib.hid (HB.out.alloc HB.out.size (.cells #[.int .i64 f.num, .int .i64 f.lvl, .string f.fst, .string f.lst, .int .i64 f.cnt, .int .i64 f.sz] 60))
      have HR1 := Lib.hid (HR.out.alloc (.cells #[.int .i64 f.num, .int .i64 f.lvl, .string f.fst, .string f.lst, .int .i64 f.cnt, .int .i64 f.sz] 60))
      clear hpos hf
      obtain ⟨fn, fv, ff, fe, fc, fz⟩ := f
      dsimp only at c0 c1 c2 c3 c4 c5 HNW HB1 HR1 HTK
      go_upto_region 8 with fail
      refine wp_letter (fun W => (Below w1.heap.size w1 W ∧ W.ownsRow w1.heap.size 2 1 (.slice va j vc) j (ivs ((l.take j).map Fl.sz))) ∧ W.cell? ⟨wr.heap.size, 0, none⟩ = some (.int .i64 fn) ∧ W.cell? ⟨wr.heap.size, 1, none⟩ = some (.int .i64 fv) ∧ W.cell? ⟨wr.heap.size, 2, none⟩ = some (.string ff) ∧ W.cell? ⟨wr.heap.size, 3, none⟩ = some (.string fe) ∧ W.cell? ⟨wr.heap.size, 4, none⟩ = some (.int .i64 fc) ∧ W.cell? ⟨wr.heap.size, 5, none⟩ = some (.int .i64 fz)) ⟨⟨HB1.out, HR1.out⟩, HNW.out⟩ ?_
      rintro w2 ⟨⟨hb2, hr2⟩, e0', e1', e2', e3', e4', e5'⟩
      have HB2 := Lib.hid hb2
      have HR2 := Lib.hid hr2
      clear hb2 hr2 HNW HB1 HR1 HR HB c0 c1 c2 c3 c4 c5
      have H1 := Lib.hid (cell_blk (heap_alloc_new w2 (.cells #[.int .i64 fz] 2)) 0)
      go_upto_region 9 with (at_builtin; refine wpList_app64 rfl _ _ rfl w1.heap.size _ j ((l.take j).map Fl.sz) fz rfl (HR2.out.alloc _) w2.heap.size rfl (by exact H1.out) (by omega) (by have := HB2.out.size; simp; omega) ?_; intro v' w3 hown3 hgr3)
      have HB3 : Hid (Below w1.heap.size w1 w3) := Lib.hid ((HB2.out.alloc HB2.out.size (.cells #[.int .i64 fz] 2)).grown hgr3 (by have := HB2.out.size; simp; omega) (fun j hj => (HR2.out.lt j hj).1))
      have HR3 := Lib.hid hown3
      clear hown3 hgr3 e0' e1' e2' e3' e4' e5' H1
      go_wp2_with fail
      go_roundw
      case rel => exact ⟨j + 1, by omega, by go_num, Lib.hid (by rw [HTK.out]; exact HR3.out), HB3⟩
      case measure => simp [intOf]; omega
    · obtain rfl : j = m := by omega
      have hrow := HR.out
      rw [List.take_of_length_le (by rw [HN.out]; exact Nat.le_refl _)] at hrow
      have CSM : Hid (Calls Try.prog 52 #[.slice va j vc] wr fun e w' => e = .returned (.tuple #[.int .i64 T, .bool true]) ∧ wr = w') := Lib.hid (by
        have hv := VAt.row hrow (by simp [HN.out])
        have := Nu.sum_any (B := wr.heap.size) va vc (l.map Fl.sz) wr (by rw [List.length_map, ← HN.out]; omega) (fun x hx => by have := HSZ.out x hx; omega) ⟨hv.there, hv.cells⟩
        rw [List.length_map, ← HN.out] at this
        refine this.mono ?_
        rintro e w' ⟨he, hw⟩
        refine ⟨?_, hw⟩
        rw [HTE.out]
        exact he.1 (by have := HTI.out; rw [HTE.out] at this; omega))
      have HT2 := Lib.hid (HT1.out.next HB.out)
      clear hrow HR HB HT1 HFL
      have bc := HT2.out.cfg
      rw [← HZ.out.2.1] at bc
      obtain ⟨u0, u1, u2, u3⟩ := four_cells bc
      have b := HT2.out.rat
      rw [← HZ.out.2.2] at b
      obtain ⟨d0, d1⟩ := two_cells b
      have p0 : wr.frozen? ⟨x, 0, none⟩ = false := free_blk b 0
      have p1 : wr.frozen? ⟨x, 1, none⟩ = false := free_blk b 1
      have HL := Lib.hid (lt_of_heap b)
      clear b bc
      go_upto_region 15 with (go_at_call 52; (with_reducible refine CSM.out.mono ?_); rintro e w4 ⟨rfl, rfl⟩; clear CSM)
      go_loopw [13, 47] (fun v i W => ∃ (g : Nat) (X : Int), g ≤ n - 1 ∧ i = .int .i64 g ∧ v = .int .i64 X ∧ Hid (X = q * r ^ g) ∧ wr = W) (fun _ i _ => (n - 1) - (intOf i).toNat)
      case atStart => exact ⟨0, q, by omega, rfl, rfl, Lib.hid (by simp), rfl⟩
      case round =>
        obtain ⟨g, X, hg, rfl, rfl, HX, rfl⟩ := hrel
        by_cases hgl : g < n - 1
        · obtain ⟨Y, hY⟩ : ∃ Y, Y = X * r := ⟨_, rfl⟩
          have hYE : Y = q * r ^ (g + 1) := by rw [hY, HX.out, Int.pow_succ, Int.mul_assoc]
          have hw1 : IntKind.i64.wrap (X * r) = Y := by
            rw [← hY]
            have := HPW.out (g + 1) (by omega)
            rw [← hYE] at this
            exact IntWalk.i64_in _ (by omega)
          have HYE := Lib.hid hYE
          clear hYE hY
          have hg2 : (g : Int) < ((n - 1 : Nat) : Int) := by omega
          go_wp2_with fail
          go_roundw
          case rel => exact ⟨g + 1, Y, by omega, by go_num, rfl, HYE, trivial⟩
          case measure => simp [intOf]; omega
        · obtain rfl : g = n - 1 := by omega
          have hg2 : ¬ ((n - 1 : Nat) : Int) < ((n - 1 : Nat) : Int) := by omega
          go_wp2_with fail
          exact bodyPost_ret (v := .agg #[.int .i64 T, .int .i64 X]) (by simp [results, Try.results34, go_sem, d0, d1, p0, p1, HL.out]) rfl ⟨by rw [HX.out], (HT2.out.bel.setCell (p := ⟨x, 0, none⟩) (by have := HZ.out.2.2; simp; omega) _).setCell (p := ⟨x, 1, none⟩) (by have := HZ.out.2.2; simp; omega) _⟩
end Go.Proofs.Ythodlkacfcnhnaa
