/- Trees: the names of a right term. Conditions: those written at each theorem. -/
import Derived.Test.YtepoihokbcoidaaTrY
import Derived.Test.YtepoihokbcoidaaTrX
import Derived.Test.YtepoihokbcoidaaShelf
namespace Go.Proofs.Ytepoihokbcoidaa
open Go.RowKit Go.PlainAid Go.Maps Go.WideShapes
set_option linter.unusedVariables false
set_option linter.unusedSimpArgs false
theorem nodup_le {α : Type} [DecidableEq α] : ∀ (l m : List α), l.Nodup → (∀ x ∈ l, x ∈ m) → l.length ≤ m.length
  | [], m, _, _ => Nat.zero_le _
  | a :: t, m, hn, hs => by
    have ha := hs a (List.mem_cons_self ..)
    obtain ⟨h1, h2⟩ := List.nodup_cons.1 hn
    have := nodup_le t (m.erase a) h2 fun x hx => (List.mem_erase_of_ne (fun e => h1 (by rw [← e]; exact hx))).2 (hs x (List.mem_cons_of_mem _ hx))
    rw [List.length_erase_of_mem ha] at this
    have := List.length_pos_of_mem ha
    simp only [List.length_cons]
    omega
/-- Of two maps, of which one has all keys of the other. -/
theorem size_le {H : Type} {D1 D2 : DataW H} (h1 : Canon D1) (h2 : Canon D2) (h : ∀ k, Maps.has D1 k = true → Maps.has D2 k = true) : Maps.size D1 ≤ Maps.size D2 := by
  obtain ⟨e1, rfl, s1, k1⟩ := h1
  obtain ⟨e2, rfl, s2, k2⟩ := h2
  rw [size_eq, size_eq]
  have hn : (e1.map (·.1)).Nodup := by
    unfold List.Nodup
    rw [List.pairwise_map]
    exact apart_of_rising s1
  classical
  have := nodup_le (e1.map (·.1)) (e2.map (·.1)) hn fun x hx => by
    obtain ⟨p, hp, rfl⟩ := List.mem_map.1 hx
    have h3 := h p.1 (List.any_eq_true.2 ⟨p, hp, WideAt.sameKey_self (k1 p hp)⟩)
    obtain ⟨q, hq, hs⟩ := List.any_eq_true.1 h3
    exact List.mem_map.2 ⟨q, hq, WideAt.sameKey_eq hs⟩
  simpa using this
theorem own_size {P : Program} {k : TypeId} {R : Value → Option (DataW Unit × List MemPlace)} {w : World} {b n : Nat} {D : DataW Unit} (h : w.ownsMap P k R b n D) : Maps.size D ≤ n ∧ (strKeys D).length = Maps.size D := by
  obtain ⟨es, clock, _, _, hs, rfl⟩ := h
  refine ⟨?_, by simp [strKeys, size_eq]⟩
  rw [size_eq, length_sorted]
  simpa using hs
/-- What Names gives of a right term. -/
def NamesP (x : Tr) (w : World) (e : Ending) (w' : World) : Prop := (∃ (a a2 : Option Addr) (n c n2 c2 : Nat) (D : DataW Unit), e = .returned (.tuple #[.slice a n c, .slice a2 n2 c2]) ∧ n = Maps.size D ∧ n ≤ 1000000 ∧ Canon D ∧ (∀ k, Maps.has D k = true ↔ ∃ s ∈ x.coin, k = .string s)) ∧ Below w.heap.size w w'
set_option maxRecDepth 100000 in
set_option maxHeartbeats 8000000 in
theorem names_any {S : Nat → Prop} (x : Tr) (eo : Option Addr) (ek : Nat) (tb : Option Addr) (tk : Nat) (w : World) (hS : ∀ b, S b → b < w.heap.size) (hx : TrOk S w x eo ek tb tk) (hf : x.fit) (hn : x.cnt < 1000) (hr : x.rgt = true) :
    Calls Try.prog 15 #[trV x eo ek tb tk] w (NamesP x w) := by
  have CR : Hid (∀ W, Below w.heap.size w W → Calls Try.prog 16 #[trV x eo ek tb tk] W fun e w' => e = .returned (.bool true) ∧ Below W.heap.size W w') := Lib.hid fun W hW => by
    have := right_any x eo ek tb tk W (fun b hb => by have := hS b hb; have := hW.size; omega) (hx.next hS hW) hf hn
    rw [hr] at this
    exact this
  have CM : Hid (∀ (mb nb : Nat) W, mb ≠ nb → w.heap.size ≤ mb → w.heap.size ≤ nb → Below w.heap.size w W → MK mb 0 [] W → MK nb 0 [] W → Calls Try.prog 28 #[trV x eo ek tb tk, .map (some mb), .map (some nb)] W fun e w' => e = .returned (.tuple #[]) ∧ (∃ js', MK mb x.cnt x.coin w' ∧ MK nb x.cnt js' w') ∧ G2 mb nb W w') := Lib.hid fun mb nb W h1 h2 h3 hW h4 h5 => by
    have h := hx.next hS hW
    have := meet_any (S := S) (B := w.heap.size) h1 (fun b hb => by have := hS b hb; omega) x 0 0 [] [] eo ek tb tk W hW.size h4 h5 hf h.ec h.tc h.ex h.te (by omega) (by omega)
    simpa using this
  have K1 := Lib.hid (fun (m : Nat) (W : World) => callsIn_wide.1 (Try.maps_Keys_30 (some m) W))
  have K2 := Lib.hid (fun (m nn : Nat) (D : DataW Unit) (W : World) (ho : W.ownsMap Try.prog 9 (plainElem Try.prog 3) m nn D) (h1 : Maps.size D ≤ 1000000) => callsIn_wide.1 (Try.slices_Sorted_keys_29_30 m nn D _ W ho (by unfold maxLen; omega) (by omega)))
  have hmm := @run_makeMap Try.prog
  obtain ⟨cn, hcn⟩ : ∃ v, v = x.cnt := ⟨_, rfl⟩
  rw [← hcn] at CM hn
  obtain ⟨xc, hxc⟩ : ∃ v, v = x.coin := ⟨_, rfl⟩
  have HXC := Lib.hid hxc
  rw [← hxc] at CM
  obtain ⟨xo, hxo⟩ : ∃ v, v = x.op := ⟨_, rfl⟩
  obtain ⟨xs, hxs⟩ : ∃ v, v = x.nm := ⟨_, rfl⟩
  obtain ⟨m, hm⟩ : ∃ m, m = x.exprs.length := ⟨_, rfl⟩
  obtain ⟨m2, hm2⟩ : ∃ m, m = x.terms.length := ⟨_, rfl⟩
  have hxe : trV x eo ek tb tk = .agg #[.int .i64 xo, .string xs, .slice eo m ek, .slice tb m2 tk] := by rw [hm, hm2, hxo, hxs]
  rw [hxe] at CR CM ⊢
  obtain ⟨z, hz⟩ : ∃ z, z = w.heap.size := ⟨_, rfl⟩
  have GA : Hid (∀ W, w.alloc (.cells #[.int .i64 xo, .string xs, .slice eo m ek, .slice tb m2 tk] 33) = W → W.heap[z]? = some (.cells #[.int .i64 xo, .string xs, .slice eo m ek, .slice tb m2 tk] 33 (0, 0)) ∧ Below w.heap.size w W ∧ z < W.heap.size) := Lib.hid (by
    rintro W rfl
    exact ⟨by rw [hz]; exact heap_alloc_new w _, (Below.refl w.heap.size w).alloc (Nat.le_refl _) _, by rw [hz]; simp⟩)
  have GM : Hid (∀ W V, (W.alloc (.map #[] 0)).alloc (.map #[] 0) = V → MK W.heap.size 0 [] V ∧ MK (W.heap.size + 1) 0 [] V ∧ Below W.heap.size W V) := Lib.hid (by
    rintro W V rfl
    have h1 : (W.alloc (.map #[] 0)).heap.size = W.heap.size + 1 := by simp
    refine ⟨(MK.made W).kept (World.grownBy_alloc _ _ none) (by simp), ?_, ((Below.refl _ _).alloc (Nat.le_refl _) _).alloc (by omega) _⟩
    rw [← h1]
    exact MK.made _)
  clear hx hf hr hcn hxc hxo hxs hm hm2 hxe hS
  go_enter Try.func15, Try.ntmps15
  go_upto_region 1 with fail
  obtain ⟨W, hW⟩ : ∃ x, w.alloc (.cells #[.int .i64 xo, .string xs, .slice eo m ek, .slice tb m2 tk] 33) = x := ⟨_, rfl⟩
  rw [hW, ← hz]
  obtain ⟨b1, g1, l1⟩ := GA.out W hW
  have HG := Lib.hid g1
  have HB1 := Lib.hid b1
  obtain ⟨c0, c1, c2, c3⟩ := quad b1
  clear hW b1 g1 l1 GA
  have HZ := Lib.hid hz
  clear hz
  go_upto_region 4 with (go_at_call 16; (with_reducible refine (CR.out _ HG.out).mono ?_); rintro e w2 ⟨rfl, hb⟩; have HB2 := Lib.hid hb; clear hb c0 c1 c2 c3)
  obtain ⟨V, hV⟩ : ∃ x, (w2.alloc (.map #[] 0)).alloc (.map #[] 0) = x := ⟨_, rfl⟩
  obtain ⟨q1, q2, q3⟩ := GM.out w2 V hV
  obtain ⟨mb, hmb⟩ : ∃ x, x = w2.heap.size := ⟨_, rfl⟩
  obtain ⟨nb, hnb⟩ : ∃ x, x = w2.heap.size + 1 := ⟨_, rfl⟩
  rw [← hnb] at q2
  rw [← hmb] at q1
  rw [hV, ← hmb, show mb + 1 = nb from by omega]
  have HW2 := Lib.hid (below_mono HG.out HB2.out (Nat.le_refl _))
  have HWV := Lib.hid (below_mono HW2.out q3 (Nat.le_refl _))
  have HBV := Lib.hid ((q3.block z (by have := HB2.out.size; have := lt_of_heap HB1.out; omega)).trans ((HB2.out.block z (lt_of_heap HB1.out)).trans HB1.out))
  obtain ⟨c0, c1, c2, c3⟩ := quad HBV.out
  have hne : mb ≠ nb := by omega
  have hm1 : w.heap.size ≤ mb := by have := HW2.out.size; omega
  have hm2 : w.heap.size ≤ nb := by omega
  have CM2 := Lib.hid (CM.out mb nb V hne hm1 hm2 HWV.out q1 q2)
  have HMB := Lib.hid (And.intro hm1 hm2)
  clear q1 q2 q3 hV hmb hnb hne hm1 hm2 hmm
  go_upto_region 5 with (go_at_call 28; (with_reducible refine CM2.out.mono ?_); rintro e w5 ⟨rfl, ⟨js, h1, h2⟩, h3⟩; have HK1 := Lib.hid h1; have HK2 := Lib.hid h2; have HG5 := Lib.hid h3; clear h1 h2 h3 c0 c1 c2 c3)
  obtain ⟨D1, o1, o2, o3⟩ := HK1.out
  obtain ⟨D2, t1, t2, t3⟩ := HK2.out
  have HO1 := Lib.hid o1
  have HO2 := Lib.hid o2
  have HT1 := Lib.hid t1
  have HS1 := Lib.hid (own_size o1)
  have HS2 := Lib.hid (own_size t1)
  have HC1 := Lib.hid (o1.canon keyS)
  have HW5 := Lib.hid (HWV.out.trans (HG5.out.below (B := w.heap.size) HMB.out.1 HMB.out.2 HWV.out.size))
  clear o1 o2 o3 t1 t2 t3
  go_wp2_with fail
  refine (K1.out mb _).mono ?_
  rintro e w6 ⟨rfl, rfl⟩
  go_wp2_with fail
  refine (K2.out mb cn D1 w5 HO1.out (by have := HS1.out.1; omega)).mono ?_
  rintro e w7 ⟨v, ss, rfl, hS, hrow, hnil, hb⟩
  obtain ⟨a, c, rfl⟩ := row_form hrow
  have hlen : ss.length = Maps.size D1 := by rw [hS.length_eq, HS1.out.2]
  rw [hlen] at *
  have HB7 := Lib.hid (((Below.refl w5.heap.size w5).alloc (Nat.le_refl _) (.cells #[.map (some mb)] 59)).trans (hb.mono (by simp)))
  clear hS hrow hnil hb hlen
  obtain ⟨n1, hn1⟩ : ∃ n, n = Maps.size D1 := ⟨_, rfl⟩
  rw [← hn1]
  have HN1 := Lib.hid hn1
  clear hn1
  go_wp2_with fail
  refine (K1.out nb _).mono ?_
  rintro e w8 ⟨rfl, rfl⟩
  go_wp2_with fail
  refine (K2.out nb cn D2 w7 (by
    obtain ⟨es, clock, h1, h2⟩ := HT1.out
    exact ⟨es, clock, (HB7.out.block nb HT1.out.lt).trans h1, h2⟩) (by have := HS2.out.1; omega)).mono ?_
  rintro e w9 ⟨v, ss, rfl, hS, hrow, hnil, hb⟩
  obtain ⟨a2, c2, rfl⟩ := row_form hrow
  have HB9 := Lib.hid (((Below.refl w7.heap.size w7).alloc (Nat.le_refl _) (.cells #[.map (some nb)] 59)).trans (hb.mono (by simp)))
  clear hS hrow hnil hb
  obtain ⟨n2, hn2⟩ : ∃ n, n = ss.length := ⟨_, rfl⟩
  rw [← hn2]
  clear hn2
  go_wp2_with fail
  go_ret2
  exact ⟨⟨a, a2, n1, c, n2, c2, D1, rfl, HN1.out, by have := HN1.out; have := HS1.out.1; omega, HC1.out, by rw [← HXC.out]; exact HO2.out⟩, below_mono HW5.out (below_mono HB7.out HB9.out (Nat.le_refl _)) (Nat.le_refl _)⟩
theorem coin_sub (x : Tr) : ∀ s ∈ x.sim.coin, s ∈ x.coin := by
  induction x using Tr.ind with
  | h x ih =>
    have hco : ∀ (l : List Tr) s, s ∈ Tr.coin.coins l ↔ ∃ a ∈ l, s ∈ a.coin := by
      intro l s
      induction l with
      | nil => simp [Tr.coin.coins]
      | cons a t ih => simp [Tr.coin.coins, ih]
    have hmap : ∀ a ∈ x.terms.map Tr.sim, ∀ s ∈ a.coin, s ∈ Tr.coin.coins x.terms := by
      intro a ha s hs
      obtain ⟨u, hu, rfl⟩ := List.mem_map.1 ha
      exact (hco _ _).2 ⟨u, hu, ih u hu s hs⟩
    intro s hs
    rw [x.sim_eq] at hs
    rw [x.coin_eq]
    rcases simN_or x.op x.nm x.exprs (x.terms.map Tr.sim) with h | ⟨a, ha, h⟩ | ⟨a, ha, y, hy, h⟩
    · rw [h] at hs
      simp only [Tr.coin] at hs
      rcases List.mem_append.1 hs with hs | hs
      · exact List.mem_append.2 (.inl hs)
      · obtain ⟨a, ha, hs⟩ := (hco _ _).1 hs
        exact List.mem_append.2 (.inr (hmap a ha s hs))
    · rw [h] at hs
      exact List.mem_append.2 (.inr (hmap a ha s hs))
    · rw [h] at hs
      refine List.mem_append.2 (.inr (hmap a ha s ?_))
      rw [a.coin_eq]
      exact List.mem_append.2 (.inr ((hco _ _).2 ⟨y, hy, hs⟩))
end Go.Proofs.Ytepoihokbcoidaa
