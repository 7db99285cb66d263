/- Layer 14: a merge steps. Conditions: those written at each theorem. -/
import Derived.Test.YtkeeljjbdmmeiaaGreatDoorCuF
namespace Go.Proofs.YtkeeljjbdmmeiaaGreatDoor
open Go.RowKit Go.Maps Go.WideShapes
set_option linter.unusedVariables false
set_option linter.unusedSimpArgs false
theorem getD_set {P : List Pl} {i k : Nat} {q : Pl} (hi : i < P.length) : (P.set i q).getD k nil0 = if k = i then q else P.getD k nil0 := by
  simp only [List.getD, List.getElem?_set]
  by_cases h : i = k
  · subst h; simp [hi]
  · simp [h, show ¬ k = i from fun e => h e.symm]
/-- A place of a merge has gone on. -/
theorem MgAt.bump {mb : Nat} {av : Value} {S : MS} {va : Option Addr} {vc : Nat} {w w' : World} (h : MgAt mb av S va vc w) {i : Nat} {p q : Pl} (hp : S.P[i]? = some p) (hq : PlAt i q w') (hqb : q.b = p.b) (ho : Only [p.b] w w') :
    HpAt mb av (S.P.set i q) S.H va vc w' ∧ w'.ownsRow 0 97 1 av (S.P.set i q).length ((S.P.set i q).map plP) ∧ (∀ (a b : Nat) x y, (S.P.set i q)[a]? = some x → (S.P.set i q)[b]? = some y → x.b = y.b → a = b) := by
  have hi := (List.getElem?_eq_some_iff.1 hp).1
  have hpa := h.hp.pls i p hp
  have hk : ∀ b, b < w.heap.size → b ≠ p.b → w'.heap[b]? = w.heap[b]? := fun b hb hn => ho.block b hb (by simp [hn])
  have hrow : ∀ {e : TypeId} {z n : Nat} {v : Value} {xs : List Value}, e ≠ 99 → w.ownsRow 0 e z v n xs → w'.ownsRow 0 e z v n xs := fun {e z n v xs} hne hr => row_stay hr fun g hg => hk g (row_lt hr hg) (by
    rcases hr.2 with ⟨hv, _⟩ | ⟨b', _, _, hv, _, hg2, _⟩
    · rw [hv] at hg; cases hg
    · rw [hv] at hg; cases hg; exact type_ne hg2 hpa.blk hne)
  have hbb : ∀ k, ((S.P.set i q).getD k nil0).b = (S.P.getD k nil0).b := by
    intro k
    rw [getD_set hi]
    split
    · rename_i e
      subst e
      rw [hqb]
      simp [List.getD, hp]
    · rfl
  have hget : ∀ (a : Nat) x, (S.P.set i q)[a]? = some x → ∃ y, S.P[a]? = some y ∧ x.b = y.b ∧ (a ≠ i → x = y) := by
    intro a x hx
    rw [List.getElem?_set] at hx
    by_cases e : i = a
    · subst e
      rw [if_pos rfl, if_pos hi] at hx
      injection hx with hx
      exact ⟨p, hp, by rw [← hx, hqb], fun h => absurd rfl h⟩
    · rw [if_neg e] at hx
      exact ⟨x, hx, rfl, fun _ => rfl⟩
  refine ⟨⟨(hk mb (lt_of_heap h.hp.hd) (type_ne h.hp.hd hpa.blk (by decide))).trans h.hp.hd, ?_, ?_, ?_, h.hp.few⟩, ?_, ?_⟩
  · have e : ptrs (S.P.set i q) S.H = ptrs S.P S.H := by unfold ptrs; exact List.map_congr_left fun k _ => by rw [hbb]
    rw [e]
    exact hrow (by decide) h.hp.row
  · intro a x hx
    by_cases e : a = i
    · subst e
      rw [List.getElem?_set, if_pos rfl, if_pos hi] at hx
      injection hx with hx
      rw [← hx]
      exact hq
    · obtain ⟨y, hy, _, hxy⟩ := hget a x hx
      rw [hxy e]
      have ha := h.hp.pls a y hy
      have hne : y.b ≠ p.b := fun eb => e (h.inj a i y p hy hp eb)
      exact ⟨(hk y.b (lt_of_heap ha.blk) hne).trans ha.blk, hrow (by decide) ha.row, ha.few⟩
  · intro x hx
    obtain ⟨y, hy⟩ := h.hp.lv x hx
    have hlt := (List.getElem?_eq_some_iff.1 hy).1
    exact ⟨_, List.getElem?_eq_getElem (by rw [List.length_set]; exact hlt)⟩
  · have e : (S.P.set i q).map plP = S.P.map plP := by
      apply List.ext_getElem?
      intro k
      rw [List.getElem?_map, List.getElem?_map, List.getElem?_set]
      by_cases e : i = k
      · subst e
        rw [if_pos rfl, if_pos hi, hp]
        simp [plP, hqb]
      · rw [if_neg e]
    rw [e, List.length_set]
    exact hrow (by decide) h.all
  · intro a b x y hx hy hxy
    obtain ⟨x', hx', ex, _⟩ := hget a x hx
    obtain ⟨y', hy', ey, _⟩ := hget b y hy
    exact h.inj a b x' y' hx' hy' (by rw [← ex, ← ey]; exact hxy)
theorem swp_get {L : List Nat} {i j k : Nat} (hi : i < L.length) (hj : j < L.length) : (swp L i j).getD k 0 = if j = k then L.getD i 0 else if i = k then L.getD j 0 else L.getD k 0 := by
  unfold swp
  simp only [List.getD, List.getElem?_set, List.length_set]
  by_cases h1 : j = k
  · subst h1; simp [hj]
  · by_cases h2 : i = k
    · subst h2; simp [h1, hi]
    · simp [h1, h2]
theorem nodup_getD {L : List Nat} : L.Nodup ↔ ∀ a b, a < L.length → b < L.length → L.getD a 0 = L.getD b 0 → a = b := by
  constructor
  · intro h a b ha hb e
    simp only [List.getD, List.getElem?_eq_getElem ha, List.getElem?_eq_getElem hb, Option.getD_some] at e
    rw [List.nodup_iff_pairwise_ne, List.pairwise_iff_getElem] at h
    rcases Nat.lt_trichotomy a b with hl | hl | hl
    · exact absurd e (h a b ha hb hl)
    · exact hl
    · exact absurd e.symm (h b a hb ha hl)
  · intro h
    rw [List.nodup_iff_pairwise_ne, List.pairwise_iff_getElem]
    intro a b ha hb hab e
    have := h a b ha hb (by simp [List.getD, List.getElem?_eq_getElem ha, List.getElem?_eq_getElem hb, e])
    omega
theorem swp_nodup {L : List Nat} {i j : Nat} (h : L.Nodup) (hi : i < L.length) (hj : j < L.length) : (swp L i j).Nodup := by
  rw [nodup_getD] at h ⊢
  intro a b ha hb e
  rw [swp_len] at ha hb
  rw [swp_get hi hj, swp_get hi hj] at e
  have hs : ∀ k, (if j = k then L.getD i 0 else if i = k then L.getD j 0 else L.getD k 0) = L.getD (if j = k then i else if i = k then j else k) 0 := by
    intro k
    split
    · rfl
    · split <;> rfl
  rw [hs, hs] at e
  have hb2 : ∀ k, k < L.length → (if j = k then i else if i = k then j else k) < L.length := by
    intro k hk
    split
    · exact hi
    · split
      · exact hj
      · exact hk
  have h1 := h _ _ (hb2 a ha) (hb2 b hb) e
  repeat' split at h1
  all_goals omega
theorem dn_nodup (lt : Nat → Nat → Bool) (n : Nat) : ∀ (f : Nat) (L : List Nat) (i : Nat), L.Nodup → n ≤ L.length → i ≤ n → (dn lt n f L i).1.Nodup := by
  intro f
  induction f with
  | zero => intro L i h _ _; exact h
  | succ f ih =>
    intro L i h hn hi
    by_cases h1 : n ≤ 2 * i + 1
    · rw [dn_stop h1]; exact h
    · obtain ⟨j, hj⟩ : ∃ j, (if 2 * i + 2 < n ∧ lt (L.getD (2 * i + 2) 0) (L.getD (2 * i + 1) 0) = true then 2 * i + 2 else 2 * i + 1) = j := ⟨_, rfl⟩
      have hjn : j < n := by rw [← hj]; split <;> omega
      cases hc : lt (L.getD j 0) (L.getD i 0) with
      | true => rw [dn_yes h1 hj hc]; exact ih _ _ (swp_nodup h (by omega) (by omega)) (by rw [swp_len]; exact hn) (by omega)
      | false => rw [dn_no h1 hj hc]; exact h
theorem hFix_nd {lt : Nat → Nat → Bool} {L : List Nat} (h : L.Nodup) : (hFix lt L).Nodup := dn_nodup _ _ _ _ _ h (Nat.le_refl _) (Nat.zero_le _)
theorem hRem_nd {lt : Nat → Nat → Bool} {L : List Nat} (h : L.Nodup) : (hRem lt L).Nodup := by
  unfold hRem
  split
  · exact List.nodup_nil
  · exact List.Nodup.sublist (List.take_sublist _ _) (dn_nodup _ _ _ _ _ (swp_nodup h (by omega) (by omega)) (by rw [swp_len]; omega) (Nat.zero_le _))
theorem hFix_ok {Q : Nat → Prop} {lt : Nat → Nat → Bool} {L : List Nat} (h : ∀ k, k < L.length → Q (L.getD k 0)) : ∀ k, k < (hFix lt L).length → Q ((hFix lt L).getD k 0) := by
  intro k hk
  unfold hFix at hk ⊢
  rw [dn_len] at hk
  exact dn_ok (Nat.le_refl _) _ _ _ h (Nat.le_refl _) (Nat.zero_le _) k hk
theorem hRem_ok {Q : Nat → Prop} {lt : Nat → Nat → Bool} {L : List Nat} (h : ∀ k, 1 ≤ k → k < L.length → Q (L.getD k 0)) : ∀ k, k < (hRem lt L).length → Q ((hRem lt L).getD k 0) := by
  intro k hk
  unfold hRem at hk ⊢
  split
  · rename_i h1; rw [if_pos h1] at hk; simp at hk
  · rename_i h1
    rw [if_neg h1, List.length_take, dn_len, swp_len] at hk
    have e : ((dn lt (L.length - 1) (L.length - 1) (swp L 0 (L.length - 1)) 0).1.take (L.length - 1)).getD k 0 = (dn lt (L.length - 1) (L.length - 1) (swp L 0 (L.length - 1)) 0).1.getD k 0 := by
      simp only [List.getD]
      rw [List.getElem?_take_of_lt (by omega)]
    rw [e]
    refine dn_ok (Nat.le_refl _) _ _ _ ?_ (by rw [swp_len]; omega) (Nat.zero_le _) k (by omega)
    intro m hm
    rw [swp_get (by omega) (by omega), if_neg (by omega)]
    split
    · exact h _ (by omega) (by omega)
    · exact h _ (by omega) (by omega)
set_option maxRecDepth 100000 in
set_option maxHeartbeats 4000000 in
theorem step_any {mb : Nat} {av : Value} {S : MS} {va : Option Addr} {vc : Nat} (w : World) (h : MgAt mb av S va vc w) (hne : S.H ≠ []) :
    Calls Tryz.prog 52 #[.pointer (some ⟨mb, 0, none⟩)] w fun e w' => e = .returned (.tuple #[]) ∧ MgAt mb av S.step va vc w' ∧ Only (mgF mb S va) w w' := by
  obtain ⟨g, i, p, rfl, hi, hp, hpd, hpv, hpa, pc, hl⟩ := h.front hne
  have hil := (List.getElem?_eq_some_iff.1 hp).1
  have CN : Hid (∀ V, V = w → Calls Tryz.prog 79 #[.pointer (some ⟨p.b, 0, none⟩)] V fun e w' => e = .returned (.tuple #[]) ∧ PlAt i p.nxt w' ∧ Only [p.b] V w' ∧ w'.heap.size = V.heap.size) := Lib.hid fun V hV => by rw [hV]; exact next_any w hpa hpv
  have hdst : ∀ k, 1 ≤ k → k < S.H.length → S.H.getD k 0 ≠ i := fun k hk hkl e => by
    have := nodup_getD.1 h.nd k 0 hkl hl (by rw [hi]; exact e)
    omega
  have hgd : ∀ k, (S.P.set i p.nxt).getD k nil0 = if k = i then p.nxt else S.P.getD k nil0 := fun k => getD_set hil
  have hrest : ∀ k, 1 ≤ k → k < S.H.length → ((S.P.set i p.nxt).getD (S.H.getD k 0) nil0).ok = true := fun k hk hkl => by rw [hgd, if_neg (hdst k hk hkl)]; exact h.live k hkl
  have hstep : S.step = ⟨S.P.set i p.nxt, if p.nxt.ok = true then hFix (plt (S.P.set i p.nxt)) S.H else hRem (plt (S.P.set i p.nxt)) S.H⟩ := by
    unfold MS.step
    dsimp only
    rw [hi, hpd, hgd, if_pos rfl]
  have HB : Hid (∀ V, PlAt i p.nxt V → Only [p.b] w V → HpAt mb av (S.P.set i p.nxt) S.H (some ⟨g, 0, none⟩) vc V ∧ (∀ V2 : World, (∀ b, b < V.heap.size → b ∉ mb :: [g] → V2.heap[b]? = V.heap[b]?) → V2.ownsRow 0 97 1 av (S.P.set i p.nxt).length ((S.P.set i p.nxt).map plP))) := Lib.hid fun V h1 h2 => by
    obtain ⟨b1, b2, b3⟩ := h.bump hp h1 rfl h2
    refine ⟨b1, fun V2 hk => row_stay b2 fun x hx => hk x (row_lt b2 hx) ?_⟩
    have n1 := h.ne x hx
    have n2 : x ≠ mb := by
      rcases b2.2 with ⟨hv, _⟩ | ⟨b', _, _, hv, _, hg2, _⟩
      · rw [hv] at hx; cases hx
      · rw [hv] at hx; cases hx; exact type_ne hg2 b1.hd (by decide)
    simp only [List.mem_cons, List.not_mem_nil, or_false, not_or]
    exact ⟨n2, fun e => n1 (by rw [e]; simp [obL])⟩
  have HINJ : Hid (∀ (a b : Nat) x y, (S.P.set i p.nxt)[a]? = some x → (S.P.set i p.nxt)[b]? = some y → x.b = y.b → a = b) := Lib.hid (by
    have hget : ∀ (a : Nat) x, (S.P.set i p.nxt)[a]? = some x → ∃ y, S.P[a]? = some y ∧ x.b = y.b := by
      intro a x hx
      rw [List.getElem?_set] at hx
      by_cases e : i = a
      · subst e
        rw [if_pos rfl, if_pos hil] at hx
        injection hx with hx
        exact ⟨p, hp, by rw [← hx]; rfl⟩
      · rw [if_neg e] at hx
        exact ⟨x, hx, rfl⟩
    intro a b x y hx hy hxy
    obtain ⟨x', hx', ex⟩ := hget a x hx
    obtain ⟨y', hy', ey⟩ := hget b y hy
    exact h.inj a b x' y' hx' hy' (by rw [← ex, ← ey]; exact hxy))
  have HND := Lib.hid h.nd
  have HNE := Lib.hid h.ne
  have HRS := Lib.hid hrest
  have HH0 : Hid (p.nxt.ok = true → ∀ k, k < S.H.length → ((S.P.set i p.nxt).getD (S.H.getD k 0) nil0).ok = true) := Lib.hid fun ho k hk => by
    rcases Nat.eq_zero_or_pos k with h0 | h0
    · subst h0; rw [hgd, if_pos hi]; exact ho
    · exact hrest k h0 hk
  have HSUB : Hid (∀ x, x ∈ [p.b] → x ∈ mgF mb S (some ⟨g, 0, none⟩)) := Lib.hid fun x hx => by
    simp at hx
    subst hx
    simp only [mgF, List.mem_cons, List.mem_append, List.mem_map]
    exact .inr (.inr ⟨p, List.mem_of_getElem? hp, rfl⟩)
  have c1 := h.hp.c1
  obtain ⟨n, hn⟩ : ∃ n, n = S.H.length := ⟨_, rfl⟩
  have HNL := Lib.hid hn
  have n1 : (0 : Int) < (n : Int) := by omega
  rw [← hn] at c1
  obtain ⟨pb, hpb⟩ : ∃ n, n = p.b := ⟨_, rfl⟩
  have HPB := Lib.hid hpb
  rw [← hpb] at CN pc
  obtain ⟨ok, hok⟩ : ∃ b, b = p.nxt.ok := ⟨_, rfl⟩
  have HOK := Lib.hid hok
  rw [hstep]
  rw [← hok]
  rw [← hok] at HH0
  obtain ⟨NS, hNS⟩ : ∃ X : MS, X = ⟨S.P.set i p.nxt, if ok = true then hFix (plt (S.P.set i p.nxt)) S.H else hRem (plt (S.P.set i p.nxt)) S.H⟩ := ⟨_, rfl⟩
  have HNS := Lib.hid hNS
  rw [← hNS]
  have CNT : Hid (∀ V, PlAt i p.nxt V → Calls Tryz.prog 71 #[.pointer (some ⟨mb, 0, none⟩), .pointer (some ⟨pb, 0, none⟩)] V fun e w' => e = .returned (.tuple #[]) ∧ V = w') := Lib.hid fun V hV => by rw [HPB.out]; exact note_any (p := p.nxt) V hV
  have CVL : Hid (∀ V, PlAt i p.nxt V → Calls Tryz.prog 72 #[.pointer (some ⟨pb, 0, none⟩)] V fun e w' => e = .returned (.bool ok) ∧ Below V.heap.size V w') := Lib.hid fun V hV => by rw [HPB.out, HOK.out]; exact valid_any (p := p.nxt) V hV
  clear h hi hp hpd hpv hpa hl hil hdst hgd hrest hstep hn hpb hok hne hNS
  go_enter Tryz.func52, Tryz.ntmps52
  go_upto_region 2 with (go_at_call 79; (with_reducible refine (CN.out _ rfl).mono ?_); rintro e w1 ⟨rfl, hpl, ho, hsz⟩; have HP1 := Lib.hid hpl; have HO1 := Lib.hid (HPB.out ▸ ho : Only [p.b] w w1); have HS1 := Lib.hid hsz; clear hpl ho hsz)
  obtain ⟨hh1, hr1⟩ := HB.out w1 HP1.out HO1.out
  have c2 : w1.cell? ⟨mb, 2, none⟩ = some (.int .i64 0) := cell_blk hh1.hd 2
  have HH1 := Lib.hid hh1
  have HR1 := Lib.hid hr1
  clear hh1 hr1 c1 pc CN
  have HOF := Lib.hid (HO1.out.mono HSUB.out)
  have HGF : Hid (∀ x, x ∈ mb :: obL (some ⟨g, 0, none⟩) → x ∈ mgF mb S (some ⟨g, 0, none⟩) ∨ w.heap.size ≤ x) := Lib.hid fun x hx => by
    left
    simp only [mgF, List.mem_cons, List.mem_append] at hx ⊢
    rcases hx with h | h
    · exact .inl h
    · exact .inr (.inl h)
  cases ok with
  | true =>
    have HN2 : Hid (NS = ⟨S.P.set i p.nxt, hFix (plt (S.P.set i p.nxt)) S.H⟩) := Lib.hid (by rw [HNS.out, if_pos rfl])
    have HV := Lib.hid (HH0.out rfl)
    have CF : Hid (∀ V, Below w1.heap.size w1 V → Calls Tryz.prog 80 #[hpV mb, .int .i64 0] V fun e w' => e = .returned (.tuple #[]) ∧ HpAt mb av (S.P.set i p.nxt) (hFix (plt (S.P.set i p.nxt)) S.H) (some ⟨g, 0, none⟩) vc w' ∧ Only (obL (some ⟨g, 0, none⟩)) V w') := Lib.hid fun V hV => fix_any V (HH1.out.next hV) HV.out
    go_wp2_with (first
      | (go_at_call 71; (with_reducible refine (CNT.out _ HP1.out).mono ?_); rintro e w2 ⟨rfl, rfl⟩)
      | (go_at_call 72; (with_reducible refine (CVL.out _ HP1.out).mono ?_); rintro e w3 ⟨rfl, hb⟩; have HB3 := Lib.hid hb; clear hb)
      | (go_at_call 80; (with_reducible refine (CF.out _ HB3.out).mono ?_); rintro e w4 ⟨rfl, hh, ho⟩; have HH4 := Lib.hid hh; have HO4 := Lib.hid ho; clear hh ho))
    go_end0
    rw [HN2.out]
    refine ⟨rfl, ⟨HH4.out, HR1.out _ (fun b hb hn => ?_), HNE.out, HINJ.out, hFix_ok (Q := fun x => ((S.P.set i p.nxt).getD x nil0).ok = true) HV.out, hFix_nd HND.out⟩, ?_⟩
    · exact (HO4.out.block b (Nat.lt_of_lt_of_le hb HB3.out.size) (fun hm => hn (List.mem_cons_of_mem _ (by simpa [obL] using hm)))).trans (HB3.out.block b hb)
    · exact (HOF.out.trans (Below.only HB3.out []) (by simp)).trans HO4.out (fun x hx => (HGF.out x (List.mem_cons_of_mem _ hx)))
  | false =>
    have HN2 : Hid (NS = ⟨S.P.set i p.nxt, hRem (plt (S.P.set i p.nxt)) S.H⟩) := Lib.hid (by rw [HNS.out, if_neg (by decide)])
    have CF : Hid (∀ V, Below w1.heap.size w1 V → Calls Tryz.prog 81 #[hpV mb, .int .i64 0] V fun e w' => e = .returned .nilIface ∧ HpAt mb av (S.P.set i p.nxt) (hRem (plt (S.P.set i p.nxt)) S.H) (some ⟨g, 0, none⟩) vc w' ∧ Only (mb :: obL (some ⟨g, 0, none⟩)) V w') := Lib.hid fun V hV => remove_any V (HH1.out.next hV) (by intro e; have := HNL.out; rw [e] at this; simp at this; omega) HRS.out
    go_wp2_with (first
      | (go_at_call 71; (with_reducible refine (CNT.out _ HP1.out).mono ?_); rintro e w2 ⟨rfl, rfl⟩)
      | (go_at_call 72; (with_reducible refine (CVL.out _ HP1.out).mono ?_); rintro e w3 ⟨rfl, hb⟩; have HB3 := Lib.hid hb; clear hb)
      | (go_at_call 81; (with_reducible refine (CF.out _ HB3.out).mono ?_); rintro e w4 ⟨rfl, hh, ho⟩; have HH4 := Lib.hid hh; have HO4 := Lib.hid ho; clear hh ho))
    go_end0
    rw [HN2.out]
    refine ⟨rfl, ⟨HH4.out, HR1.out _ (fun b hb hn => ?_), HNE.out, HINJ.out, hRem_ok (Q := fun x => ((S.P.set i p.nxt).getD x nil0).ok = true) HRS.out, hRem_nd HND.out⟩, ?_⟩
    · exact (HO4.out.block b (Nat.lt_of_lt_of_le hb HB3.out.size) (fun hm => hn (by simpa [obL] using hm))).trans (HB3.out.block b hb)
    · exact (HOF.out.trans (Below.only HB3.out []) (by simp)).trans HO4.out HGF.out
end Go.Proofs.YtkeeljjbdmmeiaaGreatDoor
