/- Layer 14: a merge starts, walked: First, Seek. Conditions: those written at each theorem. -/
import Derived.Test.YtkeeljjbdmmeiaaGreatDoorCuI
namespace Go.Proofs.YtkeeljjbdmmeiaaGreatDoor
open Go.RowKit Go.Maps Go.WideShapes
set_option linter.unusedVariables false
set_option linter.unusedSimpArgs false
theorem PlAt.grown {i B n : Nat} {p : Pl} {w w' : World} {v : Value} {xs : List Value} (h : PlAt i p w) (hr : w.ownsRow B 97 1 v n xs) (g : w.grownBy w' v.ownBlock) : PlAt i p w' := by
  have hne : ∀ {b : Nat} {cs : Array Value} {t : TypeId}, w.heap[b]? = some (.cells cs t (0, 0)) → t ≠ 97 → w'.heap[b]? = w.heap[b]? := fun {b cs t} hb ht => g.block b (lt_of_heap hb) (fun e => by
    rcases hr.2 with ⟨hv, _⟩ | ⟨b', _, _, hv, _, hg2, _⟩
    · rw [hv] at e; cases e
    · rw [hv] at e; cases e; exact type_ne hb hg2 ht rfl)
  refine ⟨(hne h.blk (by decide)).trans h.blk, row_stay h.row fun x hx => ?_, h.few⟩
  rcases h.row.2 with ⟨hv, _⟩ | ⟨b', _, _, hv, _, hg2, _⟩
  · rw [hv] at hx; cases hx
  · rw [hv] at hx; cases hx; exact hne hg2 (by decide)
theorem ptrs_snoc (P : List Pl) (L : List Nat) (k : Nat) : ptrs P (L ++ [k]) = ptrs P L ++ [.pointer (some ⟨(P.getD k nil0).b, 0, none⟩)] := by simp [ptrs]
/-- A place that has begun goes to the heap. -/
theorem StAt.push {B mb : Nat} {av : Value} {P0 : List Pl} {f : Pl → Pl} {j : Nat} {va : Option Addr} {vc : Nat} {w : World} {p : Pl} (h1 : HpAt mb av (begun f P0 (j + 1)) (upL f P0 j) va vc w) (h2 : w.ownsRow B 97 1 (.slice va (upL f P0 j).length vc) (upL f P0 j).length (ptrs (begun f P0 (j + 1)) (upL f P0 j))) (h3 : w.ownsRow 0 97 1 av P0.length (P0.map plP))
    (hinj : ∀ (i k : Nat) p q, P0[i]? = some p → P0[k]? = some q → p.b = q.b → i = k) (hold : ∀ g, av.ownBlock = some g → g < B) (hsb : ∀ p, (f p).b = p.b) (hp : P0[j]? = some p) (hok : (f p).ok = true) (hn : P0.length ≤ 1000) {va1 : Option Addr} {vc1 : Nat} {w5 : World}
    (hown : w5.ownsRow B 97 1 (.slice va1 ((ptrs (begun f P0 (j + 1)) (upL f P0 j)).length + 1) vc1) ((ptrs (begun f P0 (j + 1)) (upL f P0 j)).length + 1) (ptrs (begun f P0 (j + 1)) (upL f P0 j) ++ [.pointer (some ⟨p.b, 0, none⟩)])) (hg : w.grownBy w5 (Value.slice va (upL f P0 j).length vc).ownBlock) :
    (w5.cell? ⟨mb, 1, none⟩ = some (.slice va (upL f P0 j).length vc) ∧ w5.frozen? ⟨mb, 1, none⟩ = false) ∧ StAt B mb av P0 f (j + 1) va1 vc1 (w5.setCell ⟨mb, 1, none⟩ (.slice va1 ((ptrs (begun f P0 (j + 1)) (upL f P0 j)).length + 1) vc1)) ∧ Only (mb :: obL va) w (w5.setCell ⟨mb, 1, none⟩ (.slice va1 ((ptrs (begun f P0 (j + 1)) (upL f P0 j)).length + 1) vc1)) := by
  have hj := (List.getElem?_eq_some_iff.1 hp).1
  have hob : ∀ b, (Value.slice va (upL f P0 j).length vc).ownBlock = some b → b ∈ obL va := by
    intro b hb
    cases va with
    | none => cases hb
    | some a => simp [Value.ownBlock] at hb; simp [obL, hb]
  have hmb : w5.heap[mb]? = w.heap[mb]? := hg.block mb (lt_of_heap h1.hd) (fun e => by
    rcases h2.2 with ⟨hv, _⟩ | ⟨b', _, _, hv, _, hg2, _⟩
    · rw [hv] at e; cases e
    · rw [hv] at e; cases e; exact type_ne h1.hd hg2 (by decide) rfl)
  have hhd := hmb.trans h1.hd
  have hO : Only (mb :: obL va) w (w5.setCell ⟨mb, 1, none⟩ (.slice va1 ((ptrs (begun f P0 (j + 1)) (upL f P0 j)).length + 1) vc1)) := (((Only.refl (mb :: obL va) w).grown hg (fun k hk => .inl (List.mem_cons_of_mem _ (hob k hk)))).set (a := ⟨mb, 1, none⟩) (.inl (by simp)) _)
  have hps : ∀ i q, PlAt i q w → PlAt i q (w5.setCell ⟨mb, 1, none⟩ (.slice va1 ((ptrs (begun f P0 (j + 1)) (upL f P0 j)).length + 1) vc1)) := fun i q hq => (hq.grown h2 hg).far hhd (by decide) (by decide) (fun b _ hb => set_other _ _ _ _ hb)
  have hup : upL f P0 (j + 1) = upL f P0 j ++ [j] := by rw [upL_next, map_getD hp, if_pos hok]
  have hgd : (begun f P0 (j + 1)).getD j nil0 = f p := begun_getD (by omega) (by omega) hp
  have hpt : ptrs (begun f P0 (j + 1)) (upL f P0 (j + 1)) = ptrs (begun f P0 (j + 1)) (upL f P0 j) ++ [.pointer (some ⟨p.b, 0, none⟩)] := by rw [hup, ptrs_snoc, hgd, hsb]
  have hlen : (upL f P0 (j + 1)).length = (ptrs (begun f P0 (j + 1)) (upL f P0 j)).length + 1 := by rw [hup, ptrs_len]; simp
  have hrow5 : (w5.setCell ⟨mb, 1, none⟩ (.slice va1 ((ptrs (begun f P0 (j + 1)) (upL f P0 j)).length + 1) vc1)).ownsRow B 97 1 (.slice va1 (upL f P0 (j + 1)).length vc1) (upL f P0 (j + 1)).length (ptrs (begun f P0 (j + 1)) (upL f P0 (j + 1))) := by
    rw [hlen, hpt]
    refine row_stay hown fun x hx => set_other _ _ _ _ ?_
    rcases hown.2 with ⟨hv, h0⟩ | ⟨b', _, _, hv, _, hg2, _⟩
    · rw [hv] at hx; cases hx
    · rw [hv] at hx; cases hx; exact type_ne hg2 hhd (by decide)
  refine ⟨⟨cell_blk hhd 1, free_blk hhd 1⟩, ⟨⟨?_, row_zero hrow5, fun i q hq => hps i q (h1.pls i q hq), fun x hx => ?_, ?_⟩, hrow5, ?_, hinj, hold, hsb⟩, hO⟩
  · rw [hlen]; exact set_same _ hhd
  · have hx1 := (upL_mem hx).1
    exact ⟨_, List.getElem?_eq_getElem (by rw [begun_len]; omega)⟩
  · have := upL_len f P0 (j + 1); omega
  · refine row_stay h3 fun x hx => hO.block x (row_lt h3 hx) ?_
    have x1 := hold x hx
    simp only [List.mem_cons, not_or]
    refine ⟨?_, fun hm => by have := row_ge h2 x hm; omega⟩
    rcases h3.2 with ⟨hv, _⟩ | ⟨b', _, _, hv, _, hg2, _⟩
    · rw [hv] at hx; cases hx
    · rw [hv] at hx; cases hx; exact type_ne hg2 h1.hd (by decide)
theorem all_ptr {w : World} {n c : Nat} {aa : Option Addr} {xs : List Value} (h : w.ownsRow 0 97 1 (.slice aa n c) n xs) {j : Nat} {v : Value} (hj : xs[j]? = some v) : ∃ g, aa = some ⟨g, 0, none⟩ ∧ w.cell? ⟨g, j, none⟩ = some v := by
  have hl := (List.getElem?_eq_some_iff.1 hj).1
  have h1 := h.1
  rcases h.2 with ⟨hv, h0⟩ | ⟨g, cap, cur, hv, hb, hg, hc, hcp, hsz, htk⟩
  · omega
  · injection hv with e1 e2 e3
    rw [e1] at h
    exact ⟨g, e1, by rw [h.cellAt j (by omega), hj]⟩
theorem Only.cell {F : List Nat} {w w' : World} (h : Only F w w') {z i : Nat} (hz : z < w.heap.size) (hn : z ∉ F) : w'.cell? ⟨z, i, none⟩ = w.cell? ⟨z, i, none⟩ := by
  unfold World.cell?
  rw [h.block z hz hn]
theorem seekc_any {i : Nat} {p : Pl} {key : ByteArray} {c z : Nat} (w : World) (h : PlAt i p w) (hz : w.cell? ⟨z, 0, none⟩ = some (.string key)) (hc : c ≤ p.ps.length) (hcut : ∀ j x, p.ps[j]? = some x → Op.bytesLess x.k.toList key.toList = decide (j < c)) :
    Calls Tryz.prog 49 #[.pointer (some ⟨p.b, 0, none⟩), .pointer (some ⟨z, 0, none⟩)] w fun e w' => e = .returned (.tuple #[]) ∧ PlAt i { p with pos := c } w' ∧ Only [p.b] w w' := by
  have CS := Lib.hid (seek_any w h hc hcut)
  obtain ⟨b, hb⟩ : ∃ b, b = p.b := ⟨_, rfl⟩
  rw [← hb] at CS ⊢
  clear h hc hcut hb
  go_enter Tryz.func49, Tryz.ntmps49
  go_wp2_with (go_at_call 50; (with_reducible refine CS.out.mono ?_); rintro e w2 ⟨rfl, hp, ho⟩; have HP := Lib.hid hp; have HO := Lib.hid ho; clear hp ho)
  go_end0
  exact ⟨rfl, HP.out, HO.out⟩
theorem hInitN_ok {Q : Nat → Prop} {lt : Nat → Nat → Bool} : ∀ (k : Nat) (L : List Nat), k ≤ L.length → (∀ j, j < L.length → Q (L.getD j 0)) → ∀ j, j < L.length → Q ((hInitN lt k L).getD j 0) := by
  intro k
  induction k with
  | zero => intro L _ h; exact h
  | succ k ih =>
    intro L hk h j hj
    unfold hInitN
    have hl : (dn lt L.length L.length L k).1.length = L.length := dn_len ..
    refine ih _ (by omega) (fun i hi => ?_) j (by omega)
    rw [hl] at hi
    exact dn_ok (Nat.le_refl _) _ _ _ h (Nat.le_refl _) (by omega) i hi
theorem hInit_ok {Q : Nat → Prop} {lt : Nat → Nat → Bool} {L : List Nat} (h : ∀ j, j < L.length → Q (L.getD j 0)) : ∀ j, j < (hInit lt L).length → Q ((hInit lt L).getD j 0) := by
  intro j hj
  have hl : (hInit lt L).length = L.length := hInitN_len ..
  rw [hl] at hj
  exact hInitN_ok _ _ (by omega) h j hj
theorem hInitN_nd {lt : Nat → Nat → Bool} : ∀ (k : Nat) (L : List Nat), k ≤ L.length → L.Nodup → (hInitN lt k L).Nodup := by
  intro k
  induction k with
  | zero => intro L _ h; exact h
  | succ k ih =>
    intro L hk h
    unfold hInitN
    exact ih _ (by rw [dn_len]; omega) (dn_nodup _ _ _ _ _ h (Nat.le_refl _) (by omega))
theorem hInit_nd {lt : Nat → Nat → Bool} {L : List Nat} (h : L.Nodup) : (hInit lt L).Nodup := hInitN_nd _ _ (by omega) h
set_option maxRecDepth 100000 in
set_option maxHeartbeats 8000000 in
theorem startF_any {mb : Nat} {av : Value} {S : MS} {va0 : Option Addr} {vc0 : Nat} (w : World) (h : MgAt mb av S va0 vc0 w) (hn : S.P.length ≤ 1000) :
    Calls Tryz.prog 47 #[.pointer (some ⟨mb, 0, none⟩), .func (.func 48) #[] #[]] w fun e w' => e = .returned (.tuple #[]) ∧ (∃ va vc, MgAt mb av (S.start (fun p => { p with pos := 0 })) va vc w' ∧ ∀ x ∈ obL va, w.heap.size ≤ x) ∧ Only (mb :: S.P.map (·.b)) w w' := by
  obtain ⟨f, hf⟩ : ∃ f : Pl → Pl, f = fun p => { p with pos := 0 } := ⟨_, rfl⟩
  have hsb : ∀ p, (f p).b = p.b := fun p => by rw [hf]
  obtain ⟨aa, ac, hav⟩ := row_form h.all
  obtain ⟨P0, hP0⟩ : ∃ P0, P0 = S.P := ⟨_, rfl⟩
  have CB : Hid (∀ (i : Nat) p V, P0[i]? = some p → PlAt i p V → Only (mb :: P0.map (·.b)) w V → Calls Tryz.prog 48 #[.pointer (some ⟨p.b, 0, none⟩)] V fun e w' => e = .returned (.tuple #[]) ∧ PlAt i (f p) w' ∧ Only [p.b] V w') := Lib.hid fun i p V hp h1 h2 => by
    rw [hf]
    exact (first_any V h1).mono fun e w' h => ⟨h.1, h.2.1, h.2.2.1⟩
  obtain ⟨B, hB⟩ : ∃ B, B = w.heap.size := ⟨_, rfl⟩
  have hold : ∀ g, av.ownBlock = some g → g < B := fun g hg => by rw [hB]; exact row_lt h.all hg
  have hst : StAt B mb av P0 f 0 none 0 (w.setCell ⟨mb, 1, none⟩ (.slice none 0 0)) := by
    have hk : ∀ b, b < w.heap.size → b ≠ mb → (w.setCell ⟨mb, 1, none⟩ (.slice none 0 0)).heap[b]? = w.heap[b]? := fun b _ hb => set_other _ _ _ _ hb
    have e0 : begun f P0 0 = S.P := by unfold begun; rw [hP0]; simp
    have e1 : upL f P0 0 = [] := rfl
    refine ⟨⟨set_same _ h.hp.hd, World.ownsRow_nil _ 0 _ 1, fun i p hp => ?_, fun x hx => (by rw [e1] at hx; cases hx), by rw [e1]; simp⟩, World.ownsRow_nil _ B _ 1, row_stay (by rw [hP0]; exact h.all) fun g hg => set_other _ _ _ _ ?_, fun i k p q => by rw [hP0]; exact h.inj i k p q, hold, hsb⟩
    · rw [e0] at hp
      exact (h.hp.pls i p hp).far h.hp.hd (by decide) (by decide) hk
    · rcases h.all.2 with ⟨hv, _⟩ | ⟨b', _, _, hv, _, hg2, _⟩
      · rw [hv] at hg; cases hg
      · rw [hv] at hg; cases hg; exact type_ne hg2 h.hp.hd (by decide)
  have HST0 := Lib.hid hst
  have HON0 : Hid (Only (mb :: P0.map (·.b)) w (w.setCell ⟨mb, 1, none⟩ (.slice none 0 0))) := Lib.hid ((Only.refl _ w).set (a := ⟨mb, 1, none⟩) (.inl (by simp)) _)
  have c0 : w.cell? ⟨mb, 0, none⟩ = some av := cell_blk h.hp.hd 0
  have c1 := h.hp.c1
  have c2 : w.cell? ⟨mb, 2, none⟩ = some (.int .i64 0) := cell_blk h.hp.hd 2
  have z1 := free_blk h.hp.hd 1
  have HSB := Lib.hid hsb
  have HOLD := Lib.hid hold
  have HINJ : Hid (∀ (i k : Nat) p q, P0[i]? = some p → P0[k]? = some q → p.b = q.b → i = k) := Lib.hid fun i k p q => by rw [hP0]; exact h.inj i k p q
  rw [← hP0] at hn
  have HN := Lib.hid hn
  obtain ⟨n, hnn⟩ : ∃ n, n = P0.length := ⟨_, rfl⟩
  have HNN := Lib.hid hnn
  rw [← hP0, ← hnn] at hav
  have HAV := Lib.hid hav
  have HBB : Hid (B ≤ w.heap.size ∧ w.heap.size ≤ B) := Lib.hid (by omega)
  have HRES : Hid (S.start (fun p => { p with pos := 0 }) = ⟨P0.map f, hInit (plt (P0.map f)) (upL f P0 n)⟩) := Lib.hid (by rw [hf, hnn, hP0]; rfl)
  obtain ⟨NS, hNS⟩ : ∃ X, X = S.start (fun p => { p with pos := 0 }) := ⟨_, rfl⟩
  have HNS := Lib.hid hNS
  rw [← hNS]
  rw [← hP0]
  rw [hav] at c0
  clear h hst hsb hold hn hf hP0 hB hnn hNS
  go_enter Tryz.func47, Tryz.ntmps47
  have hu : undef = Value.tuple #[] := rfl
  go_upto_region 2 with fail
  clear c1 c2 z1 c0
  obtain ⟨w1, hw1⟩ : ∃ X, w.setCell ⟨mb, 1, none⟩ (.slice none 0 0) = X := ⟨_, rfl⟩
  rw [hw1] at HST0 HON0 ⊢
  have c0 : w1.cell? ⟨mb, 0, none⟩ = some (.slice aa n ac) := by rw [← HAV.out]; exact cell_blk HST0.out.hp.hd 0
  go_upto_region 3 with fail
  clear c0 hw1
  go_loopw [23] (fun v wr => ∃ (j : Nat) (va : Option Addr) (vc : Nat), j ≤ n ∧ v = .int .i64 j ∧ Hid (StAt B mb av P0 f j va vc wr) ∧ Hid (Only (mb :: P0.map (·.b)) w wr)) (fun v _ => n - (intOf v).toNat)
  case atStart => exact ⟨0, none, 0, by omega, rfl, HST0, HON0⟩
  case round =>
    obtain ⟨j, va, vc, hj, rfl, HS, HO⟩ := hrel
    have hn1 : n ≤ 1000 := by have := HN.out; have := HNN.out; omega
    by_cases hlt : j < n
    · obtain ⟨p, hp⟩ : ∃ p, P0[j]? = some p := ⟨_, List.getElem?_eq_getElem (by rw [← HNN.out]; exact hlt)⟩
      have hall := HS.out.all
      rw [← HNN.out, HAV.out] at hall
      obtain ⟨ga, rfl, pc⟩ := all_ptr hall (j := j) (v := plP p) (by simp [hp])
      have pc2 : wr.cell? ⟨ga, j, none⟩ = some (.pointer (some ⟨p.b, 0, none⟩)) := pc
      have hpl : PlAt j p wr := HS.out.hp.pls j p (by rw [begun_get (by have := HNN.out; omega), if_neg (by omega), hp])
      have CB1 := Lib.hid (CB.out j p wr hp hpl HO.out)
      have HBG : Hid (∀ w2, PlAt j (f p) w2 → Only [p.b] wr w2 → ∀ w3, Below w2.heap.size w2 w3 → HpAt mb av (begun f P0 (j + 1)) (upL f P0 j) va vc w3 ∧ w3.ownsRow B 97 1 (.slice va (upL f P0 j).length vc) (upL f P0 j).length (ptrs (begun f P0 (j + 1)) (upL f P0 j)) ∧ w3.ownsRow 0 97 1 av P0.length (P0.map plP)) := Lib.hid fun w2 h1 h2 w3 h3 => by
        obtain ⟨a1, a2, a3⟩ := HS.out.begin hp h1 h2
        exact ⟨a1.next h3, row_stay a2 fun g hg => h3.block g (row_lt (row_zero a2) hg), row_stay a3 fun g hg => h3.block g (row_lt a3 hg)⟩
      have HPB : Hid (p.b ∈ P0.map (·.b)) := Lib.hid (List.mem_map.2 ⟨p, List.mem_of_getElem? hp, rfl⟩)
      have CNT : Hid (∀ V, PlAt j (f p) V → Calls Tryz.prog 71 #[.pointer (some ⟨mb, 0, none⟩), .pointer (some ⟨p.b, 0, none⟩)] V fun e w' => e = .returned (.tuple #[]) ∧ V = w') := Lib.hid fun V hV => by rw [← HSB.out p]; exact note_any V hV
      have CVL : Hid (∀ V, PlAt j (f p) V → Calls Tryz.prog 72 #[.pointer (some ⟨p.b, 0, none⟩)] V fun e w' => e = .returned (.bool (f p).ok) ∧ Below V.heap.size V w') := Lib.hid fun V hV => by rw [← HSB.out p]; exact valid_any V hV
      have HPJ := Lib.hid hp
      obtain ⟨pb, hpb⟩ : ∃ b, b = p.b := ⟨_, rfl⟩
      have HPBB := Lib.hid hpb
      rw [← hpb] at pc2 CB1 CNT CVL
      have j0 : (0 : Int) ≤ (j : Int) := by omega
      have j1 : (j : Int) < (n : Int) := by omega
      have hw9 : IntKind.i64.wrap ((j : Int) + 1) = ((j + 1 : Nat) : Int) := by rw [IntKind.wrap_i64]; omega
      have HJ : Hid (j + 1 ≤ n ∧ n ≤ 1000) := Lib.hid ⟨by omega, hn1⟩
      clear hp hall pc hpl hpb hn1
      cases hok : (f p).ok with
      | false =>
        rw [hok] at CVL
        have HUP : Hid (upL f P0 (j + 1) = upL f P0 j) := Lib.hid (by rw [upL_next, map_getD HPJ.out, hok]; simp)
        go_wp2_with (first
          | (go_at_call 48; (with_reducible refine CB1.out.mono ?_); rintro e w2 ⟨rfl, hq, ho⟩; have HP2 := Lib.hid hq; have HO2 : Hid (Only [p.b] wr w2) := Lib.hid (HPBB.out ▸ ho); clear hq ho)
          | (go_at_call 71; (with_reducible refine (CNT.out _ HP2.out).mono ?_); rintro e w4 ⟨rfl, rfl⟩)
          | (go_at_call 72; (with_reducible refine (CVL.out _ HP2.out).mono ?_); rintro e w3 ⟨rfl, hb⟩; have HB3 := Lib.hid hb; clear hb))
        obtain ⟨a1, a2, a3⟩ := HBG.out _ HP2.out HO2.out _ HB3.out
        go_roundw
        case rel =>
          (repeat apply Exists.intro)
          exact ⟨⟨j + 1, va, vc, HJ.out.1, rfl, Lib.hid ⟨by rw [HUP.out]; exact a1, by rw [HUP.out]; exact a2, a3, HINJ.out, HOLD.out, HSB.out⟩, Lib.hid ((HO.out.trans (HO2.out.mono (G := mb :: P0.map (·.b)) (fun x hx => by simp at hx; subst hx; exact List.mem_cons_of_mem _ HPB.out)) (fun x hx => .inl hx)).trans (Below.only HB3.out []) (by simp))⟩, rfl⟩
        case measure => have := HJ.out; simp [intOf]; omega
      | true =>
        rw [hok] at CVL
        have HOKK := Lib.hid hok
        obtain ⟨l, hl⟩ : ∃ l, l = (upL f P0 j).length := ⟨_, rfl⟩
        have HLL := Lib.hid hl
        have HPU : Hid (∀ w3 va1 vc1 w5, HpAt mb av (begun f P0 (j + 1)) (upL f P0 j) va vc w3 → w3.ownsRow B 97 1 (.slice va (upL f P0 j).length vc) (upL f P0 j).length (ptrs (begun f P0 (j + 1)) (upL f P0 j)) → w3.ownsRow 0 97 1 av P0.length (P0.map plP) → w5.ownsRow B 97 1 (.slice va1 ((ptrs (begun f P0 (j + 1)) (upL f P0 j)).length + 1) vc1) ((ptrs (begun f P0 (j + 1)) (upL f P0 j)).length + 1) (ptrs (begun f P0 (j + 1)) (upL f P0 j) ++ [.pointer (some ⟨p.b, 0, none⟩)]) → w3.grownBy w5 (Value.slice va (upL f P0 j).length vc).ownBlock → (w5.cell? ⟨mb, 1, none⟩ = some (.slice va (upL f P0 j).length vc) ∧ w5.frozen? ⟨mb, 1, none⟩ = false) ∧ StAt B mb av P0 f (j + 1) va1 vc1 (w5.setCell ⟨mb, 1, none⟩ (.slice va1 ((ptrs (begun f P0 (j + 1)) (upL f P0 j)).length + 1) vc1)) ∧ Only (mb :: obL va) w3 (w5.setCell ⟨mb, 1, none⟩ (.slice va1 ((ptrs (begun f P0 (j + 1)) (upL f P0 j)).length + 1) vc1))) := Lib.hid fun w3 va1 vc1 w5 h1 h2 h3 h4 h5 => StAt.push h1 h2 h3 HINJ.out HOLD.out HSB.out HPJ.out HOKK.out HN.out h4 h5
        obtain ⟨PT, hPT⟩ : ∃ L, L = ptrs (begun f P0 (j + 1)) (upL f P0 j) := ⟨_, rfl⟩
        have HPTL : Hid (PT.length = l) := Lib.hid (by rw [hPT, ptrs_len, hl])
        have HL1 : Hid (l ≤ 100000) := Lib.hid (by rw [hl]; have := upL_len f P0 j; have := HJ.out; omega)
        rw [← hPT, ← hl] at HPU HBG
        rw [← HPBB.out] at HPU
        clear hl hPT hok
        go_wp2_with (first
          | (go_at_call 48; (with_reducible refine CB1.out.mono ?_); rintro e w2 ⟨rfl, hq, ho⟩; have HP2 := Lib.hid hq; have HO2 : Hid (Only [p.b] wr w2) := Lib.hid (HPBB.out ▸ ho); clear hq ho)
          | (go_at_call 71; (with_reducible refine (CNT.out _ HP2.out).mono ?_); rintro e w4 ⟨rfl, rfl⟩)
          | (go_at_call 72; (with_reducible refine (CVL.out _ HP2.out).mono ?_); rintro e w3 ⟨rfl, hb⟩; have HB3 := Lib.hid hb; clear hb; have c1 : w3.cell? ⟨mb, 1, none⟩ = some (.slice va l vc) := (by rw [HLL.out]; exact (HBG.out _ HP2.out HO2.out _ HB3.out).1.c1); have hbA := (Below.refl w3.heap.size w3).alloc (Nat.le_refl _) (.cells #[.pointer (some ⟨pb, 0, none⟩)] 97); have HBA := Lib.hid hbA; have HA4 := Lib.hid (HBG.out _ HP2.out HO2.out _ (below_mono HB3.out hbA (Nat.le_refl _))); have HN4 : Hid ((w3.alloc (.cells #[.pointer (some ⟨pb, 0, none⟩)] 97)).cell? ⟨w3.heap.size, 0, none⟩ = some (.pointer (some ⟨pb, 0, none⟩))) := Lib.hid (cell_blk (heap_alloc_new w3 _) 0); have HBS : Hid (B ≤ (w3.alloc (.cells #[.pointer (some ⟨pb, 0, none⟩)] 97)).heap.size) := Lib.hid (Nat.le_trans HBB.out.1 (Nat.le_trans HO.out.size (Nat.le_trans HO2.out.size (Nat.le_trans HB3.out.size hbA.size)))); clear hbA)
          | (at_builtin; refine wpList_appPl rfl _ _ 93 (.inl rfl) rfl B _ PT (some ⟨pb, 0, none⟩) rfl (by rw [HPTL.out]; exact HA4.out.2.1) _ rfl HN4.out (by rw [HPTL.out]; exact HL1.out) HBS.out ?_; intro va1 vc1 w5 hown hg; have HP5 := Lib.hid (HPU.out _ va1 vc1 w5 HA4.out.1 HA4.out.2.1 HA4.out.2.2 hown hg); rw [HPTL.out] at HP5 ⊢; obtain ⟨⟨d1, z1⟩, _⟩ := HP5.out; clear hown hg c1))
        go_roundw
        case rel =>
          (repeat apply Exists.intro)
          exact ⟨⟨j + 1, va1, vc1, HJ.out.1, rfl, Lib.hid HP5.out.2.1, Lib.hid ((((HO.out.trans (HO2.out.mono (G := mb :: P0.map (·.b)) (fun x hx => by simp at hx; subst hx; exact List.mem_cons_of_mem _ (HPBB.out ▸ HPB.out))) (fun x hx => .inl hx)).trans (Below.only HB3.out []) (by simp)).trans (Below.only HBA.out []) (by simp)).trans HP5.out.2.2 (fun x hx => by
          rcases List.mem_cons.1 hx with h1 | h1
          · exact .inl (by rw [h1]; exact List.mem_cons_self ..)
          · exact .inr (Nat.le_trans HBB.out.2 (row_ge HS.out.row x h1))))⟩, rfl⟩
        case measure => have := HJ.out; simp [intOf]; omega
    · obtain rfl : j = n := by omega
      have e9 : begun f P0 j = P0.map f := by rw [HNN.out]; exact begun_all f P0
      have hm := HS.out.mg (by have := HNN.out; omega)
      rw [e9] at hm
      have c2 : wr.cell? ⟨mb, 2, none⟩ = some (.int .i64 0) := cell_blk HS.out.hp.hd 2
      have CI := Lib.hid (init_any wr hm.hp hm.live)
      have HM := Lib.hid hm
      clear hm e9
      go_wp2_with (go_at_call 73; (with_reducible refine CI.out.mono ?_); rintro e w9 ⟨rfl, hh, ho⟩; have HH9 := Lib.hid hh; have HO9 := Lib.hid ho; clear hh ho)
      go_end0
      refine ⟨rfl, ⟨va, vc, ?_, fun x hx => Nat.le_trans HBB.out.2 (row_ge HS.out.row x hx)⟩, HO.out.trans HO9.out (fun x hx => .inr (Nat.le_trans HBB.out.2 (row_ge HS.out.row x hx)))⟩
      rw [HNS.out, HRES.out]
      refine ⟨HH9.out, row_stay HM.out.all fun g hg => HO9.out.block g (row_lt HM.out.all hg) (HM.out.ne g hg), HM.out.ne, HM.out.inj, hInit_ok (Q := fun x => ((P0.map f).getD x nil0).ok = true) HM.out.live, hInit_nd HM.out.nd⟩
set_option maxRecDepth 100000 in
set_option maxHeartbeats 8000000 in
theorem startS_any {mb : Nat} {av : Value} {S : MS} {va0 : Option Addr} {vc0 : Nat} {key : ByteArray} {z : Nat} {c : Pl → Nat} (w : World) (h : MgAt mb av S va0 vc0 w) (hn : S.P.length ≤ 1000) (hz : w.cell? ⟨z, 0, none⟩ = some (.string key)) (hzl : z < w.heap.size) (hzn : z ∉ mb :: S.P.map (·.b)) (hc : ∀ p ∈ S.P, c p ≤ p.ps.length ∧ ∀ j x, p.ps[j]? = some x → Op.bytesLess x.k.toList key.toList = decide (j < c p)) :
    Calls Tryz.prog 47 #[.pointer (some ⟨mb, 0, none⟩), .func (.func 49) #[] #[.pointer (some ⟨z, 0, none⟩)]] w fun e w' => e = .returned (.tuple #[]) ∧ (∃ va vc, MgAt mb av (S.start (fun p => { p with pos := c p })) va vc w' ∧ ∀ x ∈ obL va, w.heap.size ≤ x) ∧ Only (mb :: S.P.map (·.b)) w w' := by
  obtain ⟨f, hf⟩ : ∃ f : Pl → Pl, f = fun p => { p with pos := c p } := ⟨_, rfl⟩
  have hsb : ∀ p, (f p).b = p.b := fun p => by rw [hf]
  obtain ⟨aa, ac, hav⟩ := row_form h.all
  obtain ⟨P0, hP0⟩ : ∃ P0, P0 = S.P := ⟨_, rfl⟩
  have CB : Hid (∀ (i : Nat) p V, P0[i]? = some p → PlAt i p V → Only (mb :: P0.map (·.b)) w V → Calls Tryz.prog 49 #[.pointer (some ⟨p.b, 0, none⟩), .pointer (some ⟨z, 0, none⟩)] V fun e w' => e = .returned (.tuple #[]) ∧ PlAt i (f p) w' ∧ Only [p.b] V w') := Lib.hid fun i p V hp h1 h2 => by
    rw [hf]
    rw [hP0] at hp h2
    obtain ⟨q1, q2⟩ := hc p (List.mem_of_getElem? hp)
    exact seekc_any V h1 ((h2.cell hzl hzn).trans hz) q1 q2
  obtain ⟨B, hB⟩ : ∃ B, B = w.heap.size := ⟨_, rfl⟩
  have hold : ∀ g, av.ownBlock = some g → g < B := fun g hg => by rw [hB]; exact row_lt h.all hg
  have hst : StAt B mb av P0 f 0 none 0 (w.setCell ⟨mb, 1, none⟩ (.slice none 0 0)) := by
    have hk : ∀ b, b < w.heap.size → b ≠ mb → (w.setCell ⟨mb, 1, none⟩ (.slice none 0 0)).heap[b]? = w.heap[b]? := fun b _ hb => set_other _ _ _ _ hb
    have e0 : begun f P0 0 = S.P := by unfold begun; rw [hP0]; simp
    have e1 : upL f P0 0 = [] := rfl
    refine ⟨⟨set_same _ h.hp.hd, World.ownsRow_nil _ 0 _ 1, fun i p hp => ?_, fun x hx => (by rw [e1] at hx; cases hx), by rw [e1]; simp⟩, World.ownsRow_nil _ B _ 1, row_stay (by rw [hP0]; exact h.all) fun g hg => set_other _ _ _ _ ?_, fun i k p q => by rw [hP0]; exact h.inj i k p q, hold, hsb⟩
    · rw [e0] at hp
      exact (h.hp.pls i p hp).far h.hp.hd (by decide) (by decide) hk
    · rcases h.all.2 with ⟨hv, _⟩ | ⟨b', _, _, hv, _, hg2, _⟩
      · rw [hv] at hg; cases hg
      · rw [hv] at hg; cases hg; exact type_ne hg2 h.hp.hd (by decide)
  have HST0 := Lib.hid hst
  have HON0 : Hid (Only (mb :: P0.map (·.b)) w (w.setCell ⟨mb, 1, none⟩ (.slice none 0 0))) := Lib.hid ((Only.refl _ w).set (a := ⟨mb, 1, none⟩) (.inl (by simp)) _)
  have c0 : w.cell? ⟨mb, 0, none⟩ = some av := cell_blk h.hp.hd 0
  have c1 := h.hp.c1
  have c2 : w.cell? ⟨mb, 2, none⟩ = some (.int .i64 0) := cell_blk h.hp.hd 2
  have z1 := free_blk h.hp.hd 1
  have HSB := Lib.hid hsb
  have HOLD := Lib.hid hold
  have HINJ : Hid (∀ (i k : Nat) p q, P0[i]? = some p → P0[k]? = some q → p.b = q.b → i = k) := Lib.hid fun i k p q => by rw [hP0]; exact h.inj i k p q
  rw [← hP0] at hn
  have HN := Lib.hid hn
  obtain ⟨n, hnn⟩ : ∃ n, n = P0.length := ⟨_, rfl⟩
  have HNN := Lib.hid hnn
  rw [← hP0, ← hnn] at hav
  have HAV := Lib.hid hav
  have HBB : Hid (B ≤ w.heap.size ∧ w.heap.size ≤ B) := Lib.hid (by omega)
  have HRES : Hid (S.start (fun p => { p with pos := c p }) = ⟨P0.map f, hInit (plt (P0.map f)) (upL f P0 n)⟩) := Lib.hid (by rw [hf, hnn, hP0]; rfl)
  obtain ⟨NS, hNS⟩ : ∃ X, X = S.start (fun p => { p with pos := c p }) := ⟨_, rfl⟩
  have HNS := Lib.hid hNS
  rw [← hNS]
  rw [← hP0]
  rw [hav] at c0
  clear h hst hsb hold hn hf hP0 hB hnn hNS hz hzl hzn hc
  go_enter Tryz.func47, Tryz.ntmps47
  have hu : undef = Value.tuple #[] := rfl
  go_upto_region 2 with fail
  clear c1 c2 z1 c0
  obtain ⟨w1, hw1⟩ : ∃ X, w.setCell ⟨mb, 1, none⟩ (.slice none 0 0) = X := ⟨_, rfl⟩
  rw [hw1] at HST0 HON0 ⊢
  have c0 : w1.cell? ⟨mb, 0, none⟩ = some (.slice aa n ac) := by rw [← HAV.out]; exact cell_blk HST0.out.hp.hd 0
  go_upto_region 3 with fail
  clear c0 hw1
  go_loopw [23] (fun v wr => ∃ (j : Nat) (va : Option Addr) (vc : Nat), j ≤ n ∧ v = .int .i64 j ∧ Hid (StAt B mb av P0 f j va vc wr) ∧ Hid (Only (mb :: P0.map (·.b)) w wr)) (fun v _ => n - (intOf v).toNat)
  case atStart => exact ⟨0, none, 0, by omega, rfl, HST0, HON0⟩
  case round =>
    obtain ⟨j, va, vc, hj, rfl, HS, HO⟩ := hrel
    have hn1 : n ≤ 1000 := by have := HN.out; have := HNN.out; omega
    by_cases hlt : j < n
    · obtain ⟨p, hp⟩ : ∃ p, P0[j]? = some p := ⟨_, List.getElem?_eq_getElem (by rw [← HNN.out]; exact hlt)⟩
      have hall := HS.out.all
      rw [← HNN.out, HAV.out] at hall
      obtain ⟨ga, rfl, pc⟩ := all_ptr hall (j := j) (v := plP p) (by simp [hp])
      have pc2 : wr.cell? ⟨ga, j, none⟩ = some (.pointer (some ⟨p.b, 0, none⟩)) := pc
      have hpl : PlAt j p wr := HS.out.hp.pls j p (by rw [begun_get (by have := HNN.out; omega), if_neg (by omega), hp])
      have CB1 := Lib.hid (CB.out j p wr hp hpl HO.out)
      have HBG : Hid (∀ w2, PlAt j (f p) w2 → Only [p.b] wr w2 → ∀ w3, Below w2.heap.size w2 w3 → HpAt mb av (begun f P0 (j + 1)) (upL f P0 j) va vc w3 ∧ w3.ownsRow B 97 1 (.slice va (upL f P0 j).length vc) (upL f P0 j).length (ptrs (begun f P0 (j + 1)) (upL f P0 j)) ∧ w3.ownsRow 0 97 1 av P0.length (P0.map plP)) := Lib.hid fun w2 h1 h2 w3 h3 => by
        obtain ⟨a1, a2, a3⟩ := HS.out.begin hp h1 h2
        exact ⟨a1.next h3, row_stay a2 fun g hg => h3.block g (row_lt (row_zero a2) hg), row_stay a3 fun g hg => h3.block g (row_lt a3 hg)⟩
      have HPB : Hid (p.b ∈ P0.map (·.b)) := Lib.hid (List.mem_map.2 ⟨p, List.mem_of_getElem? hp, rfl⟩)
      have CNT : Hid (∀ V, PlAt j (f p) V → Calls Tryz.prog 71 #[.pointer (some ⟨mb, 0, none⟩), .pointer (some ⟨p.b, 0, none⟩)] V fun e w' => e = .returned (.tuple #[]) ∧ V = w') := Lib.hid fun V hV => by rw [← HSB.out p]; exact note_any V hV
      have CVL : Hid (∀ V, PlAt j (f p) V → Calls Tryz.prog 72 #[.pointer (some ⟨p.b, 0, none⟩)] V fun e w' => e = .returned (.bool (f p).ok) ∧ Below V.heap.size V w') := Lib.hid fun V hV => by rw [← HSB.out p]; exact valid_any V hV
      have HPJ := Lib.hid hp
      obtain ⟨pb, hpb⟩ : ∃ b, b = p.b := ⟨_, rfl⟩
      have HPBB := Lib.hid hpb
      rw [← hpb] at pc2 CB1 CNT CVL
      have j0 : (0 : Int) ≤ (j : Int) := by omega
      have j1 : (j : Int) < (n : Int) := by omega
      have hw9 : IntKind.i64.wrap ((j : Int) + 1) = ((j + 1 : Nat) : Int) := by rw [IntKind.wrap_i64]; omega
      have HJ : Hid (j + 1 ≤ n ∧ n ≤ 1000) := Lib.hid ⟨by omega, hn1⟩
      clear hp hall pc hpl hpb hn1
      cases hok : (f p).ok with
      | false =>
        rw [hok] at CVL
        have HUP : Hid (upL f P0 (j + 1) = upL f P0 j) := Lib.hid (by rw [upL_next, map_getD HPJ.out, hok]; simp)
        go_wp2_with (first
          | (go_at_call 49; (with_reducible refine CB1.out.mono ?_); rintro e w2 ⟨rfl, hq, ho⟩; have HP2 := Lib.hid hq; have HO2 : Hid (Only [p.b] wr w2) := Lib.hid (HPBB.out ▸ ho); clear hq ho)
          | (go_at_call 71; (with_reducible refine (CNT.out _ HP2.out).mono ?_); rintro e w4 ⟨rfl, rfl⟩)
          | (go_at_call 72; (with_reducible refine (CVL.out _ HP2.out).mono ?_); rintro e w3 ⟨rfl, hb⟩; have HB3 := Lib.hid hb; clear hb))
        obtain ⟨a1, a2, a3⟩ := HBG.out _ HP2.out HO2.out _ HB3.out
        go_roundw
        case rel =>
          (repeat apply Exists.intro)
          exact ⟨⟨j + 1, va, vc, HJ.out.1, rfl, Lib.hid ⟨by rw [HUP.out]; exact a1, by rw [HUP.out]; exact a2, a3, HINJ.out, HOLD.out, HSB.out⟩, Lib.hid ((HO.out.trans (HO2.out.mono (G := mb :: P0.map (·.b)) (fun x hx => by simp at hx; subst hx; exact List.mem_cons_of_mem _ HPB.out)) (fun x hx => .inl hx)).trans (Below.only HB3.out []) (by simp))⟩, rfl⟩
        case measure => have := HJ.out; simp [intOf]; omega
      | true =>
        rw [hok] at CVL
        have HOKK := Lib.hid hok
        obtain ⟨l, hl⟩ : ∃ l, l = (upL f P0 j).length := ⟨_, rfl⟩
        have HLL := Lib.hid hl
        have HPU : Hid (∀ w3 va1 vc1 w5, HpAt mb av (begun f P0 (j + 1)) (upL f P0 j) va vc w3 → w3.ownsRow B 97 1 (.slice va (upL f P0 j).length vc) (upL f P0 j).length (ptrs (begun f P0 (j + 1)) (upL f P0 j)) → w3.ownsRow 0 97 1 av P0.length (P0.map plP) → w5.ownsRow B 97 1 (.slice va1 ((ptrs (begun f P0 (j + 1)) (upL f P0 j)).length + 1) vc1) ((ptrs (begun f P0 (j + 1)) (upL f P0 j)).length + 1) (ptrs (begun f P0 (j + 1)) (upL f P0 j) ++ [.pointer (some ⟨p.b, 0, none⟩)]) → w3.grownBy w5 (Value.slice va (upL f P0 j).length vc).ownBlock → (w5.cell? ⟨mb, 1, none⟩ = some (.slice va (upL f P0 j).length vc) ∧ w5.frozen? ⟨mb, 1, none⟩ = false) ∧ StAt B mb av P0 f (j + 1) va1 vc1 (w5.setCell ⟨mb, 1, none⟩ (.slice va1 ((ptrs (begun f P0 (j + 1)) (upL f P0 j)).length + 1) vc1)) ∧ Only (mb :: obL va) w3 (w5.setCell ⟨mb, 1, none⟩ (.slice va1 ((ptrs (begun f P0 (j + 1)) (upL f P0 j)).length + 1) vc1))) := Lib.hid fun w3 va1 vc1 w5 h1 h2 h3 h4 h5 => StAt.push h1 h2 h3 HINJ.out HOLD.out HSB.out HPJ.out HOKK.out HN.out h4 h5
        obtain ⟨PT, hPT⟩ : ∃ L, L = ptrs (begun f P0 (j + 1)) (upL f P0 j) := ⟨_, rfl⟩
        have HPTL : Hid (PT.length = l) := Lib.hid (by rw [hPT, ptrs_len, hl])
        have HL1 : Hid (l ≤ 100000) := Lib.hid (by rw [hl]; have := upL_len f P0 j; have := HJ.out; omega)
        rw [← hPT, ← hl] at HPU HBG
        rw [← HPBB.out] at HPU
        clear hl hPT hok
        go_wp2_with (first
          | (go_at_call 49; (with_reducible refine CB1.out.mono ?_); rintro e w2 ⟨rfl, hq, ho⟩; have HP2 := Lib.hid hq; have HO2 : Hid (Only [p.b] wr w2) := Lib.hid (HPBB.out ▸ ho); clear hq ho)
          | (go_at_call 71; (with_reducible refine (CNT.out _ HP2.out).mono ?_); rintro e w4 ⟨rfl, rfl⟩)
          | (go_at_call 72; (with_reducible refine (CVL.out _ HP2.out).mono ?_); rintro e w3 ⟨rfl, hb⟩; have HB3 := Lib.hid hb; clear hb; have c1 : w3.cell? ⟨mb, 1, none⟩ = some (.slice va l vc) := (by rw [HLL.out]; exact (HBG.out _ HP2.out HO2.out _ HB3.out).1.c1); have hbA := (Below.refl w3.heap.size w3).alloc (Nat.le_refl _) (.cells #[.pointer (some ⟨pb, 0, none⟩)] 97); have HBA := Lib.hid hbA; have HA4 := Lib.hid (HBG.out _ HP2.out HO2.out _ (below_mono HB3.out hbA (Nat.le_refl _))); have HN4 : Hid ((w3.alloc (.cells #[.pointer (some ⟨pb, 0, none⟩)] 97)).cell? ⟨w3.heap.size, 0, none⟩ = some (.pointer (some ⟨pb, 0, none⟩))) := Lib.hid (cell_blk (heap_alloc_new w3 _) 0); have HBS : Hid (B ≤ (w3.alloc (.cells #[.pointer (some ⟨pb, 0, none⟩)] 97)).heap.size) := Lib.hid (Nat.le_trans HBB.out.1 (Nat.le_trans HO.out.size (Nat.le_trans HO2.out.size (Nat.le_trans HB3.out.size hbA.size)))); clear hbA)
          | (at_builtin; refine wpList_appPl rfl _ _ 93 (.inl rfl) rfl B _ PT (some ⟨pb, 0, none⟩) rfl (by rw [HPTL.out]; exact HA4.out.2.1) _ rfl HN4.out (by rw [HPTL.out]; exact HL1.out) HBS.out ?_; intro va1 vc1 w5 hown hg; have HP5 := Lib.hid (HPU.out _ va1 vc1 w5 HA4.out.1 HA4.out.2.1 HA4.out.2.2 hown hg); rw [HPTL.out] at HP5 ⊢; obtain ⟨⟨d1, z1⟩, _⟩ := HP5.out; clear hown hg c1))
        go_roundw
        case rel =>
          (repeat apply Exists.intro)
          exact ⟨⟨j + 1, va1, vc1, HJ.out.1, rfl, Lib.hid HP5.out.2.1, Lib.hid ((((HO.out.trans (HO2.out.mono (G := mb :: P0.map (·.b)) (fun x hx => by simp at hx; subst hx; exact List.mem_cons_of_mem _ (HPBB.out ▸ HPB.out))) (fun x hx => .inl hx)).trans (Below.only HB3.out []) (by simp)).trans (Below.only HBA.out []) (by simp)).trans HP5.out.2.2 (fun x hx => by
          rcases List.mem_cons.1 hx with h1 | h1
          · exact .inl (by rw [h1]; exact List.mem_cons_self ..)
          · exact .inr (Nat.le_trans HBB.out.2 (row_ge HS.out.row x h1))))⟩, rfl⟩
        case measure => have := HJ.out; simp [intOf]; omega
    · obtain rfl : j = n := by omega
      have e9 : begun f P0 j = P0.map f := by rw [HNN.out]; exact begun_all f P0
      have hm := HS.out.mg (by have := HNN.out; omega)
      rw [e9] at hm
      have c2 : wr.cell? ⟨mb, 2, none⟩ = some (.int .i64 0) := cell_blk HS.out.hp.hd 2
      have CI := Lib.hid (init_any wr hm.hp hm.live)
      have HM := Lib.hid hm
      clear hm e9
      go_wp2_with (go_at_call 73; (with_reducible refine CI.out.mono ?_); rintro e w9 ⟨rfl, hh, ho⟩; have HH9 := Lib.hid hh; have HO9 := Lib.hid ho; clear hh ho)
      go_end0
      refine ⟨rfl, ⟨va, vc, ?_, fun x hx => Nat.le_trans HBB.out.2 (row_ge HS.out.row x hx)⟩, HO.out.trans HO9.out (fun x hx => .inr (Nat.le_trans HBB.out.2 (row_ge HS.out.row x hx)))⟩
      rw [HNS.out, HRES.out]
      refine ⟨HH9.out, row_stay HM.out.all fun g hg => HO9.out.block g (row_lt HM.out.all hg) (HM.out.ne g hg), HM.out.ne, HM.out.inj, hInit_ok (Q := fun x => ((P0.map f).getD x nil0).ok = true) HM.out.live, hInit_nd HM.out.nd⟩
end Go.Proofs.YtkeeljjbdmmeiaaGreatDoor
