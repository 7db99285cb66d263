/- What is laid is taken as it was; a proper front of it is nothing good. Plain. Conditions: those written at each theorem. -/
import Derived.Test.YtchflkibbdfeaaaEdU
namespace Go.Proofs.Ytchflkibbdfeaaa
open Go.RowKit Go.Sort
set_option linter.unusedVariables false
set_option linter.unusedSimpArgs false
abbrev Tk (α : Type) := Option (List UInt8) → α × Option (List UInt8)
/-- The taking s takes what E lays, as v; of a proper front it makes nothing good. -/
structure Lay {α : Type} (s : Tk α) (E : List UInt8) (v : α) : Prop where
  ok : ∀ r, s (some (E ++ r)) = (v, some r)
  cut : ∀ P t, t ≠ [] → P ++ t = E → (s (some P)).2 = none
  non : (s none).2 = none
/-- Nothing good, or r without its tail t. -/
def Fr (t r : List UInt8) (σ : Option (List UInt8)) : Prop := σ = none ∨ ∃ p, σ = some p ∧ p ++ t = r
theorem Fr.nil {t : List UInt8} {σ : Option (List UInt8)} (h : Fr t [] σ) (ht : t ≠ []) : σ = none := by
  rcases h with h | ⟨p, _, h⟩
  · exact h
  · exact absurd (List.append_eq_nil_iff.1 h).2 ht
theorem Lay.front {α : Type} {s : Tk α} {E : List UInt8} {v : α} (h : Lay s E v) {t r : List UInt8} {σ : Option (List UInt8)} (hf : Fr t (E ++ r) σ) : Fr t r (s σ).2 ∧ ((s σ).2 ≠ none → (s σ).1 = v) := by
  rcases hf with rfl | ⟨p, rfl, hp⟩
  · exact ⟨.inl h.non, fun hn => absurd h.non hn⟩
  · rcases List.append_eq_append_iff.1 hp with ⟨a, h1, h2⟩ | ⟨c, h1, h2⟩
    · by_cases ha : a = []
      · subst ha
        have : p = E ++ [] := by simpa using h1.symm
        rw [this, h.ok]
        refine ⟨.inr ⟨[], rfl, by simpa using h2⟩, fun _ => rfl⟩
      · have := h.cut p a ha h1.symm
        exact ⟨.inl this, fun hn => absurd this hn⟩
    · rw [h1, h.ok]
      exact ⟨.inr ⟨c, rfl, h2.symm⟩, fun _ => rfl⟩
theorem nT_succ {α : Type} (s : Tk α) (σ : Option (List UInt8)) (k : Nat) : nT s σ (k + 1) = nT s (s σ).2 k := by
  induction k with
  | zero => rfl
  | succ k ih => show (s (nT s σ (k + 1))).2 = (s (nT s (s σ).2 k)).2; rw [ih]
theorem vT_succ {α : Type} (s : Tk α) (σ : Option (List UInt8)) (k : Nat) : vT s σ (k + 1) = (s σ).1 :: vT s (s σ).2 k := by
  induction k with
  | zero => rfl
  | succ k ih => show vT s σ (k + 1) ++ [(s (nT s σ (k + 1))).1] = (s σ).1 :: (vT s (s σ).2 k ++ [(s (nT s (s σ).2 k)).1]); rw [ih, nT_succ]; rfl
theorem nT_lay {α : Type} {s : Tk α} {enc : α → List UInt8} (l : List α) : (∀ x ∈ l, Lay s (enc x) x) → ∀ r, nT s (some (l.flatMap enc ++ r)) l.length = some r ∧ vT s (some (l.flatMap enc ++ r)) l.length = l := by
  induction l with
  | nil => exact fun _ r => ⟨rfl, rfl⟩
  | cons x l ih =>
    intro h r
    have h1 := (h x (by simp)).ok (l.flatMap enc ++ r)
    have h2 := ih (fun y hy => h y (by simp [hy])) r
    rw [List.flatMap_cons, List.append_assoc, List.length_cons, nT_succ, vT_succ, h1]
    exact ⟨h2.1, by rw [h2.2]⟩
theorem nT_front {α : Type} {s : Tk α} {enc : α → List UInt8} (l : List α) : (∀ x ∈ l, Lay s (enc x) x) → ∀ {t r : List UInt8} {σ : Option (List UInt8)}, Fr t (l.flatMap enc ++ r) σ → Fr t r (nT s σ l.length) := by
  induction l with
  | nil => exact fun _ _ _ _ h => h
  | cons x l ih =>
    intro h t r σ hf
    rw [List.flatMap_cons, List.append_assoc] at hf
    rw [List.length_cons, nT_succ]
    exact ih (fun y hy => h y (by simp [hy])) ((h x (by simp)).front hf).1
theorem cut_grp {most m : Nat} {P t : List UInt8} (ht : t ≠ []) (h : P ++ t = grp m) : gt most P 0 0 = none := by
  have hl : P.length < (grp m).length := by rw [← h, List.length_append]; have := List.length_pos_iff.2 ht; omega
  have hP : P = (grp m).take P.length := by rw [← h]; simp
  rw [hP]
  exact gt_cut most m 0 0 P.length hl
theorem lay_I {n : Int} (h0 : 0 ≤ n) (h1 : n ≤ 9223372036854775807) : Lay sI (encI n) n :=
  ⟨fun r => by
    have := gt_grp0 9223372036854775807 (by decide) r n.toNat (by omega)
    unfold encI sI
    simp only [this]
    rw [show ((n.toNat : Nat) : Int) = n by omega],
   fun P t ht h => by
    have := cut_grp (most := 9223372036854775807) ht h
    unfold sI
    simp only [this], rfl⟩
theorem lay_S {n : Int} (h : InR n) : Lay sS (grp (zig n)) n :=
  ⟨fun r => by
    have := gt_grp0 18446744073709551615 (by decide) r (zig n) (zig_bd n h.1 h.2)
    unfold sS
    simp only [this]
    rw [num_zig],
   fun P t ht h => by
    have := cut_grp (most := 18446744073709551615) ht h
    unfold sS
    simp only [this], rfl⟩
theorem lay_T {x : ByteArray} (h : (x.size : Int) ≤ 80) : Lay sT (encT x) x :=
  ⟨fun r => by
    have h1 := gt_grp0 9223372036854775807 (by decide) (x.data.toList ++ r) x.size (by omega)
    have h2 : x.data.toList.length = x.size := by simp
    unfold encT sT
    rw [List.append_assoc]
    simp only [h1]
    rw [if_pos ⟨by omega, by rw [List.length_append]; omega⟩, ← h2, List.take_left, List.drop_left],
   fun P t ht h3 => by
    have h2 : x.data.toList.length = x.size := by simp
    unfold encT at h3
    rcases List.append_eq_append_iff.1 h3 with ⟨a, e1, e2⟩ | ⟨c, e1, e2⟩
    · by_cases ha : a = []
      · subst ha
        have h1 := gt_grp0 9223372036854775807 (by decide) [] x.size (by omega)
        have e3 : P = grp x.size ++ [] := by simpa using e1.symm
        have e4 : t = x.data.toList := by simpa using e2
        have hp := List.length_pos_iff.2 ht
        rw [e4, h2] at hp
        unfold sT
        rw [e3]
        simp only [h1]
        rw [if_neg (by simp only [List.length_nil]; omega)]
      · have := cut_grp (most := 9223372036854775807) ha e1.symm
        unfold sT
        simp only [this]
    · have h1 := gt_grp0 9223372036854775807 (by decide) c x.size (by omega)
      have h4 : c.length + t.length = x.size := by rw [← h2, e2, List.length_append]
      have h5 := List.length_pos_iff.2 ht
      unfold sT
      rw [e1]
      simp only [h1]
      rw [if_neg (by omega)], rfl⟩
theorem lay_F {f : Fl} (h : OkF f) (hr : InF f) : Lay sF (encF f) f := by
  obtain ⟨k1, k2, k3, k4, k5, k6⟩ := h
  obtain ⟨r1, r2, r3, r4⟩ := hr
  have a := lay_I k1 r1.2
  have b := lay_I k2 r2.2
  have c := lay_T k5
  have d := lay_T k6
  have e := lay_I k3 r3.2
  have g := lay_I k4 r4.2
  refine ⟨fun r => ?_, fun P t ht h => ?_, rfl⟩
  · unfold encF sF
    simp only [List.append_assoc, a.ok, b.ok, c.ok, d.ok, e.ok, g.ok]
  · have f0 : Fr t (encI f.num ++ (encI f.lvl ++ (encT f.fst ++ (encT f.lst ++ (encI f.cnt ++ (encI f.sz ++ [])))))) (some P) := .inr ⟨P, rfl, by rw [h]; unfold encF; simp [List.append_assoc]⟩
    exact ((g.front (e.front (d.front (c.front (b.front (a.front f0).1).1).1).1).1).1).nil ht
/-- Laid, an edit is taken as it was. -/
theorem good_enc {lg nx sq : Int} {ds : List Int} {l : List Fl} (hS : Snd lg nx sq ds l) (r1 : InR lg) (r2 : InR nx) (r3 : InR sq) (rd : ∀ d ∈ ds, InR d) (rf : ∀ f ∈ l, InF f) :
    Good (some (encE lg nx sq ds l)) ∧ dL (some (encE lg nx sq ds l)) = lg ∧ dX (some (encE lg nx sq ds l)) = nx ∧ dQ (some (encE lg nx sq ds l)) = sq ∧ dD (some (encE lg nx sq ds l)) = ds ∧ dA (some (encE lg nx sq ds l)) = l := by
  obtain ⟨B, hB⟩ : ∃ B, B = encE lg nx sq ds l := ⟨_, rfl⟩
  have hS' := hS
  obtain ⟨_, _, _, hd, hl, hdn, hok⟩ := hS'
  have hBB : some B = some (grp (zig lg) ++ (grp (zig nx) ++ (grp (zig sq) ++ (encI ds.length ++ (ds.flatMap encI ++ (encI l.length ++ (l.flatMap encF ++ []))))))) := by rw [hB]; unfold encE; simp [List.append_assoc]
  have s1 := (lay_S r1).ok (grp (zig nx) ++ (grp (zig sq) ++ (encI ds.length ++ (ds.flatMap encI ++ (encI l.length ++ (l.flatMap encF ++ []))))))
  have s2 := (lay_S r2).ok (grp (zig sq) ++ (encI ds.length ++ (ds.flatMap encI ++ (encI l.length ++ (l.flatMap encF ++ [])))))
  have s3 := (lay_S r3).ok (encI ds.length ++ (ds.flatMap encI ++ (encI l.length ++ (l.flatMap encF ++ []))))
  have s4 := (lay_I (n := (ds.length : Int)) (by omega) (by omega)).ok (ds.flatMap encI ++ (encI l.length ++ (l.flatMap encF ++ [])))
  have s5 := nT_lay (s := sI) (enc := encI) ds (fun x hx => lay_I (hdn x hx) (rd x hx).2) (encI l.length ++ (l.flatMap encF ++ []))
  have s6 := (lay_I (n := (l.length : Int)) (by omega) (by omega)).ok (l.flatMap encF ++ [])
  have s7 := nT_lay (s := sF) (enc := encF) l (fun x hx => lay_F (hok x hx) (rf x hx)) []
  rw [← hBB] at s1
  have eL : dL (some B) = lg := by unfold dL; rw [s1]
  have eX : dX (some B) = nx := by unfold dX; rw [s1]; show (sS _).1 = _; rw [s2]
  have eQ : dQ (some B) = sq := by unfold dQ; rw [s1]; show (sS (sS _).2).1 = _; rw [s2]; show (sS _).1 = _; rw [s3]
  have eS : dS (some B) = some (encI ds.length ++ (ds.flatMap encI ++ (encI l.length ++ (l.flatMap encF ++ [])))) := by
    unfold dS; rw [s1]; show (sS (sS _).2).2 = _; rw [s2]; show (sS _).2 = _; rw [s3]
  have eN : dN (some B) = ds.length := by unfold dN; rw [eS, s4]
  have eT : dT (some B) = some (encI l.length ++ (l.flatMap encF ++ [])) := by unfold dT; rw [eN, eS, s4]; exact s5.1
  have eD : dD (some B) = ds := by unfold dD; rw [eN, eS, s4]; exact s5.2
  have eM : dM (some B) = l.length := by unfold dM; rw [eT, s6]
  have eE : dE (some B) = some [] := by unfold dE; rw [eM, eT, s6]; exact s7.1
  have eA : dA (some B) = l := by unfold dA; rw [eM, eT, s6]; exact s7.2
  rw [← hB]
  refine ⟨⟨by omega, by omega, eE, ?_⟩, eL, eX, eQ, eD, eA⟩
  rw [eL, eX, eQ, eD, eA]
  exact hS
/-- Cut off, it is nothing good. -/
theorem cut_enc {lg nx sq : Int} {ds : List Int} {l : List Fl} {P t : List UInt8} (hS : Snd lg nx sq ds l) (r1 : InR lg) (r2 : InR nx) (r3 : InR sq) (rd : ∀ d ∈ ds, InR d) (rf : ∀ f ∈ l, InF f) (ht : t ≠ []) (h : P ++ t = encE lg nx sq ds l) : ¬ Good (some P) := by
  obtain ⟨_, _, _, hd, hl, hdn, hok⟩ := hS
  intro hG
  have hE := hG.2.2.1
  have f0 : Fr t (grp (zig lg) ++ (grp (zig nx) ++ (grp (zig sq) ++ (encI ds.length ++ (ds.flatMap encI ++ (encI l.length ++ (l.flatMap encF ++ []))))))) (some P) := .inr ⟨P, rfl, by rw [h]; unfold encE; simp [List.append_assoc]⟩
  have f3 : Fr t (encI ds.length ++ (ds.flatMap encI ++ (encI l.length ++ (l.flatMap encF ++ [])))) (dS (some P)) := ((lay_S r3).front ((lay_S r2).front ((lay_S r1).front f0).1).1).1
  obtain ⟨f4, f5⟩ := (lay_I (n := (ds.length : Int)) (by omega) (by omega)).front f3
  have hne : (sI (dS (some P))).2 ≠ none := fun e => by
    have h1 : dT (some P) = none := by unfold dT; rw [e]; exact nI_none _
    unfold dE at hE
    rw [h1] at hE
    rw [show (sI none).2 = none from rfl, nF_none] at hE
    cases hE
  have eN : dN (some P) = ds.length := f5 hne
  have f6 : Fr t (encI l.length ++ (l.flatMap encF ++ [])) (dT (some P)) := by
    have := nT_front (s := sI) (enc := encI) ds (fun x hx => lay_I (hdn x hx) (rd x hx).2) f4
    unfold dT
    rw [eN]
    exact this
  obtain ⟨f7, f8⟩ := (lay_I (n := (l.length : Int)) (by omega) (by omega)).front f6
  have hne2 : (sI (dT (some P))).2 ≠ none := fun e => by
    unfold dE at hE
    rw [e, nF_none] at hE
    cases hE
  have eM : dM (some P) = l.length := f8 hne2
  have f9 : Fr t [] (dE (some P)) := by
    have := nT_front (s := sF) (enc := encF) l (fun x hx => lay_F (hok x hx) (rf x hx)) f7
    unfold dE
    rw [eM]
    exact this
  rw [f9.nil ht] at hE
  cases hE
end Go.Proofs.Ytchflkibbdfeaaa
