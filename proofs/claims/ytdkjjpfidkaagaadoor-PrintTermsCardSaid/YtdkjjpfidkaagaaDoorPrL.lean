/- Layer 20: the program's putDeep of any right term. Conditions: those written at each theorem; the table of powers stands in memory. -/
import Derived.Test.YtdkjjpfidkaagaaDoorPrK
namespace Go.Proofs.YtdkjjpfidkaagaaDoor
open Go.RowKit Go.PlainAid
set_option linter.unusedVariables false
set_option linter.unusedSimpArgs false
theorem repeat_blanks (d : Nat) : Lib.repeatL [32, 32] d = List.replicate (2 * d) 32 := by
  induction d with
  | zero => rfl
  | succ d ih =>
    unfold Lib.repeatL
    rw [ih, show 2 * (d + 1) = 2 * d + 1 + 1 from by omega, List.replicate_succ, List.replicate_succ]
    rfl
theorem lnL_len (c : Bool) (d : Nat) : (lnL c d).length ≤ 2 * d + 1 := by
  unfold lnL
  split
  · simp
  · simp
theorem cmL_len (l : List UInt8) : (cmL l).length ≤ l.length + 2 := by
  unfold cmL
  split
  · simp
  · simp
/-- What stands ahead of an item, by how many there were. -/
def ahd (c : Bool) (d n : Nat) : List UInt8 := if n = 0 then lnL c d else cmL (lnL c d)
theorem ahd_len (c : Bool) (d n : Nat) : (ahd c d n).length ≤ 2 * d + 3 := by
  unfold ahd
  have h1 := lnL_len c d
  have h2 := cmL_len (lnL c d)
  split
  · omega
  · omega
theorem itm_step (c : Bool) (d : Nat) (ts : List (List UInt8)) (t : List UInt8) : itm c d (ts ++ [t]) = itm c d ts ++ ahd c d ts.length ++ t := by
  by_cases h : ts = []
  · subst h
    rw [itm_first]
    rfl
  · rw [itm_more _ _ _ _ h]
    unfold ahd
    rw [if_neg (fun e => h (List.length_eq_zero_iff.1 e))]
theorem repeat_any (d : Nat) (hd : d ≤ 1000) (w : World) : Calls Tryd.prog 47 #[.string ⟨#[32, 32]⟩, .int .i64 d] w fun e w' => e = .returned (.string (tx (List.replicate (2 * d) 32))) ∧ Below w.heap.size w w' := by
  match d, hd with
  | 0, _ => exact (Tryd.strings_Repeat_zero ⟨#[32, 32]⟩ w).mono fun e w' h => ⟨h.1, by rw [h.2]; exact Below.refl _ _⟩
  | 1, _ => exact (Tryd.strings_Repeat_one ⟨#[32, 32]⟩ w).mono fun e w' h => ⟨h.1, by rw [h.2]; exact Below.refl _ _⟩
  | d + 2, hd =>
    have := Tryd.strings_Repeat_main ⟨#[32, 32]⟩ (d + 2) w (by omega) (by omega) (by show 2 * (d + 2) ≤ _; omega) (by decide)
    rw [show (⟨#[32, 32]⟩ : ByteArray).data.toList = [32, 32] from rfl, repeat_blanks] at this
    exact this
theorem line_true (d : Nat) (hd : d ≤ 1000) (w : World) : Calls Tryd.prog 46 #[.int .i64 d] w fun e w' => e = .returned (.string (tx (lnL true d))) ∧ Below w.heap.size w w' := by
  have CR := Lib.hid (repeat_any d hd w)
  obtain ⟨s, hs⟩ : ∃ s, s = tx (List.replicate (2 * d) 32) := ⟨_, rfl⟩
  rw [← hs] at CR
  have HR : Hid (tx (lnL true d) = ⟨#[10]⟩ ++ s) := Lib.hid (by
    rw [hs]
    unfold lnL
    rw [if_pos rfl]
    apply ByteArray.ext
    simp)
  have q1 : (9223372036854775807 < 1 + s.size) = False := by
    rw [hs, tx_size, List.length_replicate]
    simp only [eq_iff_iff, iff_false]
    omega
  clear hs hd
  go_enter Tryd.func46, Tryd.ntmps46
  go_wp2_with (go_at_call 47; (with_reducible refine CR.out.mono ?_); rintro e w1 ⟨rfl, hb⟩; have HB := Lib.hid hb; clear hb)
  go_ret
  exact ⟨by rw [HR.out]; rfl, HB.out⟩
theorem line_false (d : Nat) (hd : d ≤ 1000) (w : World) : Calls Tryd.prog 45 #[.int .i64 d] w fun e w' => e = .returned (.string (tx (lnL false d))) ∧ Below w.heap.size w w' := by
  show Calls _ _ _ w fun e w' => e = .returned (.string ⟨#[]⟩) ∧ Below w.heap.size w w'
  clear hd
  go_enter Tryd.func45, Tryd.ntmps45
  go_wp2
  go_ret
  exact ⟨rfl, Below.refl _ _⟩
/-- The closure that says what stands ahead. -/
abbrev clV (c : Bool) : Value := .func (.func (if c = true then 46 else 45)) #[] #[]
/-- What of a term's operands is asked. -/
def Tr.er : Tr → Prop
  | .mk _ _ e l => (∀ y ∈ e, y.rng) ∧ ers l
where ers : List Tr → Prop
  | [] => True
  | x :: t => x.er ∧ ers t
theorem ers_all (l : List Tr) : Tr.er.ers l ↔ ∀ y ∈ l, y.er := by
  induction l with
  | nil => simp [Tr.er.ers]
  | cons x t ih => simp [Tr.er.ers, ih]
theorem Tr.er_eq (x : Tr) : x.er ↔ (∀ y ∈ x.exprs, y.rng) ∧ ∀ y ∈ x.terms, y.er := by
  cases x with
  | mk o s e l => show (_ ∧ Tr.er.ers l) ↔ _; rw [ers_all]; exact Iff.rfl
theorem tblt_parts {x : Tr} (h : x.blt = true) : (x.exprs.length : Int) = kidE x.op ∧ (x.terms.length : Int) = kidT x.op ∧ (x.op = 2 → fre x.nm = true) ∧ (∀ y ∈ x.exprs, y.blt = true) ∧ (∀ y ∈ x.terms, y.blt = true) ∧ 1 ≤ x.op ∧ x.op ≤ 9 := by
  rw [x.blt_eq, tblts_all] at h
  simp only [Bool.and_eq_true, List.all_eq_true] at h
  obtain ⟨⟨h1, h2⟩, h3⟩ := h
  unfold okT at h1
  simp only [Bool.and_eq_true, decide_eq_true_eq] at h1
  obtain ⟨⟨h4, h5⟩, h6⟩ := h1
  refine ⟨h4, h5, fun h => by rw [if_pos h] at h6; exact h6, h2, h3, ?_⟩
  unfold kidT at h5
  (repeat' split at h5) <;> omega
theorem cntsT_take2 {l : List Tr} : ∀ {j : Nat} {y : Tr}, l[j]? = some y → Tr.cnt.cnts (l.take j) + y.cnt ≤ Tr.cnt.cnts l := by
  induction l with
  | nil => intro j y h; simp at h
  | cons a t ih =>
    intro j y h
    cases j with
    | zero =>
      simp at h
      subst h
      simp only [List.take_zero, Tr.cnt.cnts]
      omega
    | succ j =>
      have := ih (j := j) (y := y) (by simpa using h)
      simp only [List.take_succ_cons, Tr.cnt.cnts]
      omega
theorem depsT_get {l : List Tr} : ∀ {j : Nat} {y : Tr}, l[j]? = some y → y.dep ≤ Tr.dep.deps l := by
  induction l with
  | nil => intro j y h; simp at h
  | cons a t ih =>
    intro j y h
    cases j with
    | zero => simp at h; subst h; simp only [Tr.dep.deps]; omega
    | succ j =>
      have := ih (j := j) (y := y) (by simpa using h)
      simp only [Tr.dep.deps]
      omega
theorem wdT_len (o : Int) : (wdT o).length ≤ 7 := by
  unfold wdT
  (repeat' split) <;> simp
theorem itm_len (c : Bool) (d k : Nat) (ts : List (List UInt8)) : (itm c d ts).length ≤ (ts.map fun t => t.length + (2 * d + 3)).sum := by
  cases ts with
  | nil => simp [itm]
  | cons t r =>
    have h1 := lnL_len c d
    have h2 := cmL_len (lnL c d)
    have h3 : ∀ r : List (List UInt8), (r.flatMap fun u => cmL (lnL c d) ++ u).length ≤ (r.map fun t => t.length + (2 * d + 3)).sum := by
      intro r
      induction r with
      | nil => simp
      | cons u r ih => simp only [List.flatMap_cons, List.length_append, List.map_cons, List.sum_cons]; omega
    have := h3 r
    simp only [itm, List.length_append, List.map_cons, List.sum_cons]
    omega

theorem pd_len (c : Bool) (x : Tr) : x.blt = true → x.er → ∀ d, d + x.dep ≤ 40 → (x.pd c d).length + 90 ≤ 200 * x.cnt := by
  induction x using Tr.ind with
  | h x IH =>
  intro hb he d hd
  obtain ⟨h1, h2, h3, h4, h5, h6⟩ := tblt_parts hb
  have hel := (Tr.er_eq x).1 he
  rw [x.pd_eq, x.cnt_eq]
  rw [x.dep_eq] at hd
  have hw := wdT_len x.op
  have hi := itm_len c (d + 1) 0 (x.exprs.map Xp.pr ++ x.terms.map fun y => y.pd c (d + 1))
  have hc := lnL_len c d
  rw [List.map_append, List.sum_append, List.map_map, List.map_map] at hi
  have hE : ∀ e : List Xp, (∀ y ∈ e, y.blt = true ∧ y.rng) → (e.map ((fun t : List UInt8 => t.length + (2 * (d + 1) + 3)) ∘ Xp.pr)).sum ≤ 200 * Xp.cnt.cnts e := by
    intro e
    induction e with
    | nil => simp [Xp.cnt.cnts]
    | cons y e ih =>
      intro h
      have h7 := ih fun u hu => h u (List.mem_cons_of_mem _ hu)
      have h8 := pr_len y (h y (List.mem_cons_self ..)).1 (h y (List.mem_cons_self ..)).2
      have h9 := y.cnt_eq
      simp only [List.map_cons, List.sum_cons, Xp.cnt.cnts, Function.comp]
      omega
  have hT : ∀ l : List Tr, (∀ y ∈ l, (y.pd c (d + 1)).length + 90 ≤ 200 * y.cnt) → (l.map ((fun t : List UInt8 => t.length + (2 * (d + 1) + 3)) ∘ fun y => y.pd c (d + 1))).sum ≤ 200 * Tr.cnt.cnts l := by
    intro l
    induction l with
    | nil => simp [Tr.cnt.cnts]
    | cons y l ih =>
      intro h
      have h7 := ih fun u hu => h u (List.mem_cons_of_mem _ hu)
      have h8 := h y (List.mem_cons_self ..)
      simp only [List.map_cons, List.sum_cons, Tr.cnt.cnts, Function.comp]
      omega
  have h7 := hE x.exprs fun y hy => ⟨h4 y hy, hel.1 y hy⟩
  have h8 := hT x.terms fun y hy => IH y hy (h5 y hy) (hel.2 y hy) (d + 1) (by
    obtain ⟨j, hj⟩ := List.mem_iff_getElem?.1 hy
    have := depsT_get hj
    omega)
  unfold tdN
  split
  · simp only [List.length_append, List.length_nil]; omega
  split
  · have h9 : x.nm.data.toList.length ≤ 16 := by
      have := h3 (by assumption)
      unfold fre at this
      simp only [Bool.and_eq_true] at this
      exact nmd_len this.1
    simp only [List.length_append, List.length_cons, List.length_nil]
    omega
  · simp only [List.length_append, List.length_cons, List.length_nil]
    omega
/-- A text is put, beside a box of a term. -/
structure PtA (B b z : Nat) (ec : Array Value) (l : List UInt8) (w W : World) : Prop where
  bu : BuS B b l W
  bel : Below B w W
  ot : Ot w W
  ez : W.heap[z]? = some (.cells ec 25 (0, 0))
theorem ne_typesT : (25 : TypeId) ≠ 79 ∧ (25 : TypeId) ≠ 5 := by decide
theorem PtA.next {B b z : Nat} {ec : Array Value} {l : List UInt8} {w W V : World} (h : PtA B b z ec l w W) (hB : B ≤ w.heap.size) (k : Below W.heap.size W V) : PtA B b z ec l w V :=
  ⟨h.bu.next k, h.bel.trans (k.mono (Nat.le_trans hB h.bel.size)), h.ot.trans (Ot.of_below k), (k.block z (lt_of_heap h.ez)).trans h.ez⟩
theorem PtA.put {B b z : Nat} {ec : Array Value} {l l' : List UInt8} {w W V : World} (h : PtA B b z ec l w W) (h1 : BuS B b l' V) (h2 : Below B W V) (h3 : Ot W V) : PtA B b z ec l' w V :=
  ⟨h1, h.bel.trans h2, h.ot.trans h3, h3.block z _ _ _ h.ez ne_typesT.1 ne_typesT.2⟩
theorem PtA.made {B b : Nat} {ec : Array Value} {l : List UInt8} {w : World} (hB : B ≤ w.heap.size) (h : BuS B b l w) : ∀ W, w.alloc (.cells ec 25) = W → PtA B b w.heap.size ec l w W := by
  rintro W rfl
  have k := (Below.refl w.heap.size w).alloc (Nat.le_refl _) (.cells ec 25)
  exact ⟨h.next k, k.mono hB, Ot.of_below k, heap_alloc_new w _⟩
theorem PtA.cast {B b z : Nat} {ec : Array Value} {l l' : List UInt8} {w W : World} (h : PtA B b z ec l w W) (e : l = l') : PtA B b z ec l' w W := e ▸ h
theorem itm_pre (c : Bool) (d : Nat) (a b : List (List UInt8)) : ∃ r, itm c d (a ++ b) = itm c d a ++ r := by
  cases a with
  | nil => exact ⟨_, rfl⟩
  | cons t a => exact ⟨b.flatMap fun u => cmL (lnL c d) ++ u, by simp [itm, List.append_assoc]⟩
/-- The contract on what is put of a term. -/
abbrev PtC (c : Bool) (S : Nat → Prop) (B b : Nat) (W0 : World) (y : Tr) : Prop := ∀ (d : Nat) (eo : Option Addr) (ek : Nat) (tu : Option Addr) (tk : Nat) (l : List UInt8) (w : World), d + y.dep ≤ 16 → y.cnt ≤ 200 → l.length ≤ 41000 * (d + 1) → B ≤ w.heap.size → Below B W0 w → y.exprs.length ≤ ek → y.terms.length ≤ tk → ExL S w y.exprs eo → TrL S w y.terms tu → BuS B b l w → Calls Tryd.prog 83 #[.pointer (some ⟨b, 0, none⟩), trV y eo ek tu tk, .int .i64 d, clV c] w (PuP B b (l ++ y.pd c d) w)
set_option maxRecDepth 100000 in
set_option maxHeartbeats 16000000 in
theorem putDeepN_false {S : Nat → Prop} {B b : Nat} (hS : ∀ b, S b → b < B) {W0 : World} (hT : PowN W0) (hW0 : W0.heap.size ≤ B) (x : Tr) (hb : x.blt = true) (he : x.er) (hi : ∀ y ∈ x.terms, PtC false S B b W0 y) : PtC false S B b W0 x := by
  intro d eo ek tu tk l w hd hcn hl hB hW hke hkt hxe hxt hbu
  obtain ⟨p1, p2, p3, p4, p5, p6⟩ := tblt_parts hb
  have hel := (Tr.er_eq x).1 he
  have hcq := x.cnt_eq
  have hdq := x.dep_eq
  have hpd := x.pd_eq false d
  have hpl := pd_len false x hb he d (by omega)
  have CW : Hid (∀ l s W, BuS B b l W → l.length + s.size ≤ 140737488355328 → B ≤ W.heap.size → Calls Tryd.prog 76 #[.pointer (some ⟨b, 0, none⟩), .string s] W fun e w' => e = .returned (.tuple #[.int .i64 s.size, .nilIface]) ∧ BuS B b (l ++ s.data.toList) w' ∧ Below B W w' ∧ Ot W w') := Lib.hid fun l s W h1 h2 h3 => writeString_any B b l s W h1 h2 h3
  have CWD : Hid (∀ V, Calls Tryd.prog 107 #[.int .i64 x.op] V fun e w' => e = .returned (.string (tx (wdT x.op))) ∧ V = w') := Lib.hid fun V => word_any x.op p6 V
  have CLN : Hid (∀ k : Nat, k ≤ 100 → ∀ V, Calls Tryd.prog 45 #[.int .i64 k] V fun e w' => e = .returned (.string (tx (lnL false k))) ∧ Below V.heap.size V w') := Lib.hid fun k hk V => line_false k (by omega) V
  have CCM : Hid (∀ V, Calls Tryd.prog 108 #[.string (tx (lnL false (d + 1)))] V fun e w' => e = .returned (.string (tx (cmL (lnL false (d + 1))))) ∧ V = w') := Lib.hid fun V => comma_any _ (by have := lnL_len false (d + 1); omega) V
  obtain ⟨es, hes⟩ : ∃ l, l = x.exprs := ⟨_, rfl⟩
  obtain ⟨ts, hts⟩ : ∃ l, l = x.terms := ⟨_, rfl⟩
  obtain ⟨m, hm⟩ : ∃ m, m = es.length := ⟨_, rfl⟩
  obtain ⟨m2, hm2⟩ : ∃ m, m = ts.length := ⟨_, rfl⟩
  obtain ⟨xo, hxo⟩ : ∃ v, v = x.op := ⟨_, rfl⟩
  obtain ⟨xs, hxs⟩ : ∃ v, v = x.nm := ⟨_, rfl⟩
  have htv : trV x eo ek tu tk = .agg #[.int .i64 xo, .string xs, .slice eo m ek, .slice tu m2 tk] := by rw [hm, hm2, hes, hts, hxo, hxs]
  rw [htv]
  rw [← hes] at p1 p4 hel hcq hdq hpd hke hxe
  rw [← hts] at p2 p5 hel hcq hdq hpd hkt hxt hi
  rw [← hxo] at p1 p2 p3 p6 hpd CWD
  rw [← hxs] at p3 hpd
  rw [← hm] at p1
  rw [← hm2] at p2
  have hm1 : m ≤ 1 := by unfold kidE at p1; (repeat' split at p1) <;> omega
  have hm3 : m2 ≤ 2 := by unfold kidT at p2; (repeat' split at p2) <;> omega
  have HPD := Lib.hid hpd
  have HPL := Lib.hid hpl
  have HL := Lib.hid hl
  have HD := Lib.hid hd
  have HCN := Lib.hid hcn
  have HBS := Lib.hid hB
  have HM := Lib.hid (And.intro hm hm2)
  have HM1 := Lib.hid (And.intro hm1 hm3)
  have GA := Lib.hid (PtA.made (ec := #[.int .i64 xo, .string xs, .slice eo m ek, .slice tu m2 tk]) hB hbu)
  have HX : Hid (∀ V, Below B w V → ExL S V es eo ∧ TrL S V ts tu) := Lib.hid fun V hV => ⟨hxe.stay (fun _ h => h) fun b hb => hV.block b (hS b hb), hxt.stay (fun _ h => h) fun b hb => hV.block b (hS b hb)⟩
  have HW0 : Hid (∀ V, Below B w V → Below B W0 V) := Lib.hid fun V hV => hW.trans hV
  have CE : Hid (∀ y ∈ es, ∀ (co : Option Addr) (ck : Nat) (l : List UInt8) V, Below B w V → y.args.length ≤ ck → ExL S V y.args co → BuS B b l V → l.length ≤ 900000 → Calls Tryd.prog 35 #[.pointer (some ⟨b, 0, none⟩), exV y co ck, .int .i64 0] V (PuP B b (l ++ y.pr) V)) := Lib.hid fun y hy co ck l V hV h1 h2 h3 h4 => by
    have hyc : y.cnt ≤ 200 := by
      obtain ⟨j, hj⟩ := List.mem_iff_getElem?.1 hy
      have := cnts_take2 hj
      omega
    have := putExpr_any hS hT hW0 y (p4 y hy) (hel.1 y hy) 0 co ck l V (Int.le_refl 0) (Nat.le_trans hB hV.size) (hW.trans hV) h1 h2 h3 (by omega)
    rw [pin_zero] at this
    exact this
  have CT : Hid (∀ y ∈ ts, ∀ (eo : Option Addr) (ek : Nat) (tu : Option Addr) (tk : Nat) (l : List UInt8) V, Below B w V → y.exprs.length ≤ ek → y.terms.length ≤ tk → ExL S V y.exprs eo → TrL S V y.terms tu → BuS B b l V → l.length ≤ 41000 * (d + 2) → Calls Tryd.prog 83 #[.pointer (some ⟨b, 0, none⟩), trV y eo ek tu tk, .int .i64 (d + 1 : Nat), clV false] V (PuP B b (l ++ y.pd false (d + 1)) V)) := Lib.hid fun y hy eo ek tu tk l V hV h1 h2 h3 h4 h5 h6 => by
    obtain ⟨j, hj⟩ := List.mem_iff_getElem?.1 hy
    have h7 := cntsT_take2 hj
    have h8 := depsT_get hj
    exact hi y hy (d + 1) eo ek tu tk l V (by omega) (by omega) (by omega) (Nat.le_trans hB hV.size) (hW.trans hV) h1 h2 h3 h4 h5
  have HSW : Hid (l.length + (tx (wdT xo)).size ≤ 140737488355328) := Lib.hid (by rw [tx_size]; have := wdT_len xo; omega)
  have HNM : Hid (xo = 2 → xs.data.toList.length ≤ 16) := Lib.hid fun h => by
    have := p3 h
    unfold fre at this
    simp only [Bool.and_eq_true] at this
    exact nmd_len this.1
  have HOP := Lib.hid p6
  have HSB := Lib.hid hS
  clear hb he hi hd hcn hl hB hW hke hkt hxe hxt hbu p1 p2 p3 p4 p5 p6 hel hcq hdq hpd hpl hm1 hm3 hT hW0 htv hes hts hm hm2 hxo hxs hS
  rw [show clV false = .func (.func 45) #[] #[] from rfl] at CT ⊢
  go_enter Tryd.func83, Tryd.ntmps83
  go_upto_region 1 with fail
  obtain ⟨z, hz⟩ : ∃ z, z = w.heap.size := ⟨_, rfl⟩
  obtain ⟨W, hW⟩ : ∃ X, w.alloc (.cells #[.int .i64 xo, .string xs, .slice eo m ek, .slice tu m2 tk] 25) = X := ⟨_, rfl⟩
  have g1 := GA.out W hW
  rw [hW, ← hz]
  rw [← hz] at g1
  have HA := Lib.hid g1
  obtain ⟨c0, c1, c2, c3⟩ := quad g1.ez
  clear hW g1 GA hz
  go_upto_region 2 with (first | (go_at_call 107; (with_reducible refine (CWD.out _).mono ?_); rintro e w2 ⟨rfl, rfl⟩) | (go_at_call 76; (with_reducible refine (CW.out _ _ _ HA.out.bu HSW.out (Nat.le_trans HBS.out HA.out.bel.size)).mono ?_); rintro e w3 ⟨rfl, hbu, hbl, hot⟩; have HA3 := Lib.hid (HA.out.put hbu hbl hot); clear hbu hbl hot))
  clear c0 c1 c2 c3
  obtain ⟨c0, c1, c2, c3⟩ := quad HA3.out.ez
  by_cases q1 : xo = 1
  · subst q1
    go_wp2_with fail
    go_end0
    exact ⟨rfl, HA3.out.bu.cast (by rw [HPD.out]; unfold tdN; rw [if_pos rfl, List.append_nil]), HA3.out.bel, HA3.out.ot⟩
  have e1 : (xo == 1) = false := by simp [q1]
  have HS1 : Hid ((l ++ (tx (wdT xo)).data.toList).length + (⟨#[40]⟩ : ByteArray).size ≤ 140737488355328) := Lib.hid (by rw [List.length_append]; have := wdT_len xo; have := HL.out; have := HD.out; show _ + (wdT xo).length + 1 ≤ _; omega)
  go_upto_region 4 with (go_at_call 76; (with_reducible refine (CW.out _ _ _ HA3.out.bu HS1.out (Nat.le_trans HBS.out HA3.out.bel.size)).mono ?_); rintro e w4 ⟨rfl, hbu, hbl, hot⟩; have HA4 := Lib.hid (HA3.out.put hbu hbl hot); clear hbu hbl hot)
  clear c0 c1 c2 c3
  obtain ⟨c0, c1, c2, c3⟩ := quad HA4.out.ez
  by_cases q2 : xo = 2
  · subst q2
    have hn := HNM.out rfl
    have hz : xs.size ≤ 16 := hn
    have q5 : (9223372036854775807 < xs.size + 1) = False := by
      simp only [eq_iff_iff, iff_false]
      omega
    have HS2 : Hid ((l ++ (tx (wdT 2)).data.toList ++ (⟨#[40]⟩ : ByteArray).data.toList).length + (xs ++ ⟨#[41]⟩).size ≤ 140737488355328) := Lib.hid (by
      rw [List.length_append, List.length_append, ByteArray.size_append]
      have := wdT_len 2
      have := HL.out
      have := HD.out
      show _ + (wdT 2).length + 1 + (_ + 1) ≤ _
      omega)
    clear hn hz
    go_wp2_with (go_at_call 76; (with_reducible refine (CW.out _ _ _ HA4.out.bu HS2.out (Nat.le_trans HBS.out HA4.out.bel.size)).mono ?_); rintro e w5 ⟨rfl, hbu, hbl, hot⟩; have HA5 := Lib.hid (HA4.out.put hbu hbl hot); clear hbu hbl hot)
    go_end0
    exact ⟨rfl, HA5.out.bu.cast (by rw [HPD.out]; unfold tdN; rw [if_neg (by omega), if_pos rfl]; simp [List.append_assoc]), HA5.out.bel, HA5.out.ot⟩

  have e2 : (xo == 2) = false := by simp [q2]
  obtain ⟨D1, hD1⟩ : ∃ v : Int, v = ((d + 1 : Nat) : Int) := ⟨_, rfl⟩
  have y9 : IntKind.i64.wrap ((d : Int) + 1) = D1 := by rw [hD1, IntKind.wrap_i64]; have := HD.out; omega
  have CL1 : Hid (∀ V, Calls Tryd.prog 45 #[.int .i64 D1] V fun e w' => e = .returned (.string (tx (lnL false (d + 1)))) ∧ Below V.heap.size V w') := Lib.hid fun V => by rw [hD1]; exact CLN.out (d + 1) (by have := HD.out; omega) V
  have CL0 : Hid (∀ V, Calls Tryd.prog 45 #[.int .i64 (d : Nat)] V fun e w' => e = .returned (.string (tx (lnL false d))) ∧ Below V.heap.size V w') := Lib.hid fun V => CLN.out d (by have := HD.out; omega) V
  rw [← hD1] at CT
  obtain ⟨I, hI⟩ : ∃ I, I = es.map Xp.pr ++ ts.map fun y => y.pd false (d + 1) := ⟨_, rfl⟩
  rw [← hI] at HPD
  have HTX : Hid (x.pd false d = wdT xo ++ ([40] ++ itm false (d + 1) I ++ lnL false d ++ [41])) := Lib.hid (by rw [HPD.out]; unfold tdN; rw [if_neg q1, if_neg q2]; simp)
  obtain ⟨L0, hL0⟩ : ∃ t, t = l ++ wdT xo ++ [40] := ⟨_, rfl⟩
  have HL0 := Lib.hid hL0
  have HA5 : Hid (PtA B b z #[.int .i64 xo, .string xs, .slice eo m ek, .slice tu m2 tk] L0 w w4) := Lib.hid (HA4.out.cast (by rw [hL0]))
  have HTN : Hid (∀ n, (L0 ++ itm false (d + 1) (I.take n)).length ≤ l.length + 40000 ∧ (ahd false (d + 1) n).length ≤ 100) := Lib.hid fun n => by
    obtain ⟨r, hr⟩ := itm_pre false (d + 1) (I.take n) (I.drop n)
    rw [List.take_append_drop] at hr
    have h1 := congrArg List.length HTX.out
    have h2 := congrArg List.length hr
    have h3 := HPL.out
    have h4 := HCN.out
    have h5 := ahd_len false (d + 1) n
    have h6 := HD.out
    simp only [List.length_append, List.length_cons, List.length_nil] at h1 h2
    refine ⟨?_, by omega⟩
    rw [hL0]
    simp only [List.length_append, List.length_cons, List.length_nil]
    omega
  have HTK : ∀ (n : Nat) (t : List UInt8), I[n]? = some t → I.take (n + 1) = I.take n ++ [t] ∧ (I.take n).length = n := fun n t h => ⟨by rw [List.take_add_one, h]; rfl, by rw [List.length_take]; have := (List.getElem?_eq_some_iff.1 h).1; omega⟩
  have HIE : Hid (∀ (j : Nat) y, es[j]? = some y → itm false (d + 1) (I.take (j + 1)) = itm false (d + 1) (I.take j) ++ ahd false (d + 1) j ++ y.pr) := Lib.hid fun j y h => by
    obtain ⟨h1, h2⟩ := HTK j y.pr (by rw [hI, List.getElem?_append_left (by rw [List.length_map]; exact (List.getElem?_eq_some_iff.1 h).1)]; simp [h])
    rw [h1, itm_step, h2]
  have HIT : Hid (∀ (j : Nat) y, ts[j]? = some y → itm false (d + 1) (I.take (m + j + 1)) = itm false (d + 1) (I.take (m + j)) ++ ahd false (d + 1) (m + j) ++ y.pd false (d + 1)) := Lib.hid fun j y h => by
    obtain ⟨h1, h2⟩ := HTK (m + j) (y.pd false (d + 1)) (by rw [hI, List.getElem?_append_right (by rw [List.length_map, ← HM.out.1]; omega), List.length_map, ← HM.out.1, show m + j - m = j from by omega]; simp [h])
    rw [h1, itm_step, h2]
  have HIL : Hid (I.take (m + m2) = I) := Lib.hid (List.take_of_length_le (by rw [hI, List.length_append, List.length_map, List.length_map, ← HM.out.1, ← HM.out.2]; exact Nat.le_refl _))
  have HAH : Hid (∀ n, tx (cmL (lnL false (d + 1))) = tx (ahd false (d + 1) (n + 1))) := Lib.hid fun n => by unfold ahd; rw [if_neg (by omega)]
  have HLD : Hid (l.length ≤ 41000 * (d + 1) ∧ d ≤ 16 ∧ (lnL false d).length ≤ 40) := Lib.hid ⟨HL.out, by have := HD.out; omega, by have := lnL_len false d; have := HD.out; omega⟩
  clear HTK hI hD1 hL0 HA HA3 HS1 HSW HNM HPD HPL
  go_upto_region 7 with (go_at_call 45; (with_reducible refine (CL1.out _).mono ?_); rintro e w5 ⟨rfl, hb⟩; have HA6 := Lib.hid (HA5.out.next HBS.out hb); clear hb)
  clear c0 c1 c2 c3
  obtain ⟨c0, c1, c2, c3⟩ := quad HA6.out.ez
  go_upto_region 8 with fail
  clear c0 c1 c2 c3
  go_loopw [38, 8] (fun v s wr => ∃ j : Nat, j ≤ m ∧ v = .int .i64 j ∧ s = .string (tx (ahd false (d + 1) j)) ∧ Hid (PtA B b z #[.int .i64 xo, .string xs, .slice eo m ek, .slice tu m2 tk] (L0 ++ itm false (d + 1) (I.take j)) w wr)) (fun v _ _ => m - (intOf v).toNat)
  case atStart => exact ⟨0, by omega, rfl, rfl, Lib.hid (HA6.out.cast (by simp [itm]))⟩
  case round =>
    obtain ⟨j, hj, rfl, rfl, HQ⟩ := hrel
    obtain ⟨hm1, hm3⟩ := HM1.out
    by_cases hlt : j < m
    · obtain ⟨y, hy⟩ : ∃ y, es[j]? = some y := ⟨_, List.getElem?_eq_getElem (by rw [← HM.out.1]; exact hlt)⟩
      obtain ⟨a, co, ck, rfl, hsa, hck, ⟨y0, y1, y2, y3⟩, hyl⟩ := (HX.out wr HQ.out.bel).1.get hy
      have hmem := List.mem_of_getElem? hy
      have HNX := Lib.hid (HIE.out j y hy)
      have HYX : Hid (∀ V, Below B w V → ExL S V y.args co) := Lib.hid fun V hV => by
        obtain ⟨a2, co2, ck2, ha2, _, _, ⟨_, _, _, z3⟩, hyl2⟩ := (HX.out V hV).1.get hy
        cases ha2
        have hab : (a.add (j * 4)).block < B := by rw [add_block]; exact HSB.out _ hsa
        have h1 : V.cell? ⟨(a.add (j * 4)).block, (a.add (j * 4)).off + 3, none⟩ = w.cell? ⟨(a.add (j * 4)).block, (a.add (j * 4)).off + 3, none⟩ := hV.cell (p := ⟨(a.add (j * 4)).block, (a.add (j * 4)).off + 3, none⟩) hab
        have h2 : wr.cell? ⟨(a.add (j * 4)).block, (a.add (j * 4)).off + 3, none⟩ = w.cell? ⟨(a.add (j * 4)).block, (a.add (j * 4)).off + 3, none⟩ := HQ.out.bel.cell (p := ⟨(a.add (j * 4)).block, (a.add (j * 4)).off + 3, none⟩) hab
        rw [h1, ← h2, y3] at z3
        injection z3 with z3
        injection z3 with z3
        rw [z3]
        exact hyl2
      have CEY := Lib.hid (CE.out y hmem co ck)
      have HCK := Lib.hid hck
      obtain ⟨TJ, hTJ⟩ : ∃ t, t = L0 ++ itm false (d + 1) (I.take j) := ⟨_, rfl⟩
      obtain ⟨ah, hah⟩ : ∃ t, t = ahd false (d + 1) j := ⟨_, rfl⟩
      have HTL : Hid (TJ.length ≤ l.length + 40000 ∧ ah.length ≤ 100) := Lib.hid (by rw [hTJ, hah]; exact HTN.out j)
      have HQJ : Hid (PtA B b z #[.int .i64 xo, .string xs, .slice (some a) m ek, .slice tu m2 tk] TJ w wr) := Lib.hid (by rw [hTJ]; exact HQ.out)
      obtain ⟨ty, hty⟩ : ∃ t, t = y.pr := ⟨_, rfl⟩
      have HN2 : Hid (L0 ++ itm false (d + 1) (I.take (j + 1)) = TJ ++ ah ++ ty) := Lib.hid (by rw [HNX.out, hTJ, hah, hty]; simp [List.append_assoc])
      rw [← hty] at CEY
      rw [← hah]
      obtain ⟨cm, hcm⟩ : ∃ c, c = y.args.length := ⟨_, rfl⟩
      obtain ⟨yo, hyo⟩ : ∃ v, v = y.op := ⟨_, rfl⟩
      obtain ⟨yn, hyn⟩ : ∃ v, v = y.n := ⟨_, rfl⟩
      obtain ⟨ys, hys⟩ : ∃ v, v = y.nm := ⟨_, rfl⟩
      rw [← hcm] at y3
      rw [← hyo] at y0
      rw [← hyn] at y1
      rw [← hys] at y2
      rw [show exV y co ck = .agg #[.int .i64 yo, .int .i64 yn, .string ys, .slice co cm ck] from by rw [hcm, hyo, hyn, hys]] at CEY
      obtain ⟨⟨r0, r1, r2, r3⟩, p0, p1, p2, p3⟩ := new_zero wr (.int .i64 0) (.int .i64 0) (.string ⟨#[]⟩) (.slice none 0 0) 48
      obtain ⟨u, hu⟩ : ∃ u, u = wr.heap.size := ⟨_, rfl⟩
      have j0 : (0 : Int) ≤ (j : Int) := by omega
      have j1 : (j : Int) < (m : Int) := by omega
      have HS5 : Hid (TJ.length + (tx ah).size ≤ 140737488355328) := Lib.hid (by rw [tx_size]; have := HTL.out; have := HLD.out; omega)
      clear hcm hyo hyn hys hsa hck hyl hy hmem hTJ hah hty HQ HNX HIE
      go_upto_region 10 with fail
      clear r0 r1 r2 r3 p0 p1 p2 p3 y0 y1 y2 y3
      obtain ⟨W3, hW3⟩ : ∃ X, wr.alloc (.cells #[.int .i64 yo, .int .i64 yn, .string ys, .slice co cm ck] 48) = X := ⟨_, rfl⟩
      have HB3 := Lib.hid (made_box wr _ W3 hW3).1.2
      have hb3 : W3.heap[wr.heap.size]? = some (.cells #[.int .i64 yo, .int .i64 yn, .string ys, .slice co cm ck] 48 (0, 0)) := by rw [← hW3]; exact heap_alloc_new _ _
      rw [hW3, ← hu]
      rw [← hu] at hb3
      have HU3 := Lib.hid hb3
      have HQ3 := Lib.hid (HQJ.out.next HBS.out HB3.out)
      clear hb3 hW3 hu
      go_upto_region 11 with (go_at_call 76; (with_reducible refine (CW.out _ _ _ HQ3.out.bu HS5.out (Nat.le_trans HBS.out HQ3.out.bel.size)).mono ?_); rintro e w5 ⟨rfl, hbu, hbl, hot⟩; have HU5 := Lib.hid (hot.block u _ _ _ HU3.out ne_types.1 ne_types.2); have HQ5 := Lib.hid (HQ3.out.put hbu hbl hot); clear hbu hbl hot)
      obtain ⟨x0, x1, x2, x3⟩ := quad HU5.out
      have CE5 := Lib.hid (CEY.out (TJ ++ ah) w5 HQ5.out.bel HCK.out (HYX.out _ HQ5.out.bel) (HQ5.out.bu.cast rfl) (by rw [List.length_append]; have := HTL.out; have := HLD.out; omega))
      go_upto_region 12 with (go_at_call 35; (with_reducible refine CE5.out.mono ?_); rintro e w6 ⟨rfl, hbu, hbl, hot⟩; have HQ6 := Lib.hid (HQ5.out.put hbu hbl hot); clear hbu hbl hot)
      clear x0 x1 x2 x3
      go_wp2_with (first | (go_at_call 45; (with_reducible refine (CL1.out _).mono ?_); rintro e w7 ⟨rfl, hb⟩; have HQ7 := Lib.hid (HQ6.out.next HBS.out hb); clear hb) | (go_at_call 108; (with_reducible refine (CCM.out _).mono ?_); rintro e w8 ⟨rfl, rfl⟩))
      go_roundw
      case rel => exact ⟨j + 1, by omega, by go_num, by rw [HAH.out j], Lib.hid (HQ7.out.cast HN2.out.symm)⟩
      case measure => simp [intOf]; omega
    · obtain rfl : j = m := by omega
      have HQE : Hid (PtA B b z #[.int .i64 xo, .string xs, .slice eo j ek, .slice tu m2 tk] (L0 ++ itm false (d + 1) (I.take (j + 0))) w wr) := Lib.hid HQ.out
      obtain ⟨c0, c1, c2, c3⟩ := quad HQE.out.ez
      clear HQ HA4 HA5 HA6 CE HIE
      go_upto_region 15 with fail
      clear c0 c1 c2 c3
      go_loopw [57, 8] (fun v s wr => ∃ i : Nat, i ≤ m2 ∧ v = .int .i64 i ∧ s = .string (tx (ahd false (d + 1) (j + i))) ∧ Hid (PtA B b z #[.int .i64 xo, .string xs, .slice eo j ek, .slice tu m2 tk] (L0 ++ itm false (d + 1) (I.take (j + i))) w wr)) (fun v _ _ => m2 - (intOf v).toNat)
      case atStart => exact ⟨0, by omega, rfl, rfl, HQE⟩
      case round =>
        obtain ⟨i, hi, rfl, rfl, HR⟩ := hrel
        by_cases hlt2 : i < m2
        · obtain ⟨y, hy⟩ : ∃ y, ts[i]? = some y := ⟨_, List.getElem?_eq_getElem (by rw [← HM.out.2]; exact hlt2)⟩
          obtain ⟨a, fo, fk, go, gk, rfl, hsa, hck, hdk, ⟨y0, y1, y2, y3⟩, hyl, hzl⟩ := (HX.out _ HR.out.bel).2.get hy
          have hmem := List.mem_of_getElem? hy
          have HNX := Lib.hid (HIT.out i y hy)
          have HYX : Hid (∀ V, Below B w V → ExL S V y.exprs fo ∧ TrL S V y.terms go) := Lib.hid fun V hV => by
            obtain ⟨a2, fo2, fk2, go2, gk2, ha2, _, _, _, ⟨_, _, z2, z3⟩, hyl2, hzl2⟩ := (HX.out V hV).2.get hy
            cases ha2
            have hab : (a.add (i * 4)).block < B := by rw [add_block]; exact HSB.out _ hsa
            have h1 : ∀ q, V.cell? ⟨(a.add (i * 4)).block, (a.add (i * 4)).off + q, none⟩ = w.cell? ⟨(a.add (i * 4)).block, (a.add (i * 4)).off + q, none⟩ := fun q => hV.cell (p := ⟨(a.add (i * 4)).block, (a.add (i * 4)).off + q, none⟩) hab
            have h2 : ∀ q, _ = w.cell? ⟨(a.add (i * 4)).block, (a.add (i * 4)).off + q, none⟩ := fun q => HR.out.bel.cell (p := ⟨(a.add (i * 4)).block, (a.add (i * 4)).off + q, none⟩) hab
            rw [h1, ← h2, y2] at z2
            rw [h1, ← h2, y3] at z3
            injection z2 with z2
            injection z2 with z2
            injection z3 with z3
            injection z3 with z3
            rw [z2, z3]
            exact ⟨hyl2, hzl2⟩
          have CEY := Lib.hid (CT.out y hmem fo fk go gk)
          have HCK := Lib.hid (And.intro hck hdk)
          obtain ⟨TJ, hTJ⟩ : ∃ t, t = L0 ++ itm false (d + 1) (I.take (j + i)) := ⟨_, rfl⟩
          obtain ⟨ah, hah⟩ : ∃ t, t = ahd false (d + 1) (j + i) := ⟨_, rfl⟩
          have HTL : Hid (TJ.length ≤ l.length + 40000 ∧ ah.length ≤ 100) := Lib.hid (by rw [hTJ, hah]; exact HTN.out (j + i))
          rw [← hTJ] at HR
          obtain ⟨ty, hty⟩ : ∃ t, t = y.pd false (d + 1) := ⟨_, rfl⟩
          have HN2 : Hid (L0 ++ itm false (d + 1) (I.take (j + (i + 1))) = TJ ++ ah ++ ty) := Lib.hid (by rw [show j + (i + 1) = j + i + 1 from rfl, HNX.out, hTJ, hah, hty]; simp [List.append_assoc])
          rw [← hty] at CEY
          rw [← hah]
          obtain ⟨cm, hcm⟩ : ∃ c, c = y.exprs.length := ⟨_, rfl⟩
          obtain ⟨cn, hcn2⟩ : ∃ c, c = y.terms.length := ⟨_, rfl⟩
          obtain ⟨yo, hyo⟩ : ∃ v, v = y.op := ⟨_, rfl⟩
          obtain ⟨ys, hys⟩ : ∃ v, v = y.nm := ⟨_, rfl⟩
          rw [← hcm] at y2
          rw [← hcn2] at y3
          rw [← hyo] at y0
          rw [← hys] at y1
          rw [show trV y fo fk go gk = .agg #[.int .i64 yo, .string ys, .slice fo cm fk, .slice go cn gk] from by rw [hcm, hcn2, hyo, hys]] at CEY
          obtain ⟨⟨r0, r1, r2, r3⟩, p0, p1, p2, p3⟩ := new_zero wr (.int .i64 0) (.string ⟨#[]⟩) (.slice none 0 0) (.slice none 0 0) 25
          obtain ⟨u, hu⟩ : ∃ u, u = wr.heap.size := ⟨_, rfl⟩
          have j0 : (0 : Int) ≤ (i : Int) := by omega
          have j1 : (i : Int) < (m2 : Int) := by omega
          have HS5 : Hid (TJ.length + (tx ah).size ≤ 140737488355328) := Lib.hid (by rw [tx_size]; have := HTL.out; have := HLD.out; omega)
          clear hcm hcn2 hyo hys hsa hck hdk hyl hzl hy hmem hTJ hah hty HNX HIT
          go_upto_region 17 with fail
          clear r0 r1 r2 r3 p0 p1 p2 p3 y0 y1 y2 y3
          obtain ⟨W3, hW3⟩ : ∃ X, wr.alloc (.cells #[.int .i64 yo, .string ys, .slice fo cm fk, .slice go cn gk] 25) = X := ⟨_, rfl⟩
          have HB3 := Lib.hid (made_box wr _ W3 hW3).1.2
          have hb3 : W3.heap[wr.heap.size]? = some (.cells #[.int .i64 yo, .string ys, .slice fo cm fk, .slice go cn gk] 25 (0, 0)) := by rw [← hW3]; exact heap_alloc_new _ _
          rw [hW3, ← hu]
          rw [← hu] at hb3
          have HU3 := Lib.hid hb3
          have HQ3 := Lib.hid (HR.out.next HBS.out HB3.out)
          clear hb3 hW3 hu
          go_upto_region 18 with (go_at_call 76; (with_reducible refine (CW.out _ _ _ HQ3.out.bu HS5.out (Nat.le_trans HBS.out HQ3.out.bel.size)).mono ?_); rintro e w5 ⟨rfl, hbu, hbl, hot⟩; have HU5 := Lib.hid (hot.block u _ _ _ HU3.out ne_typesT.1 ne_typesT.2); have HQ5 := Lib.hid (HQ3.out.put hbu hbl hot); clear hbu hbl hot)
          obtain ⟨x0, x1, x2, x3⟩ := quad HU5.out
          have CE5 := Lib.hid (CEY.out (TJ ++ ah) w5 HQ5.out.bel HCK.out.1 HCK.out.2 (HYX.out _ HQ5.out.bel).1 (HYX.out _ HQ5.out.bel).2 (HQ5.out.bu.cast rfl) (by rw [List.length_append]; have := HTL.out; have := HLD.out; omega))
          go_upto_region 19 with (go_at_call 83; (with_reducible refine CE5.out.mono ?_); rintro e w6 ⟨rfl, hbu, hbl, hot⟩; have HQ6 := Lib.hid (HQ5.out.put hbu hbl hot); clear hbu hbl hot)
          clear x0 x1 x2 x3
          go_wp2_with (first | (go_at_call 45; (with_reducible refine (CL1.out _).mono ?_); rintro e w7 ⟨rfl, hb⟩; have HQ7 := Lib.hid (HQ6.out.next HBS.out hb); clear hb) | (go_at_call 108; (with_reducible refine (CCM.out _).mono ?_); rintro e w8 ⟨rfl, rfl⟩))
          go_roundw
          case rel => exact ⟨i + 1, by omega, by go_num, by rw [HAH.out (j + i)]; rfl, Lib.hid (HQ7.out.cast HN2.out.symm)⟩
          case measure => simp [intOf]; omega
        · obtain rfl : i = m2 := by omega
          obtain ⟨ln, hln⟩ : ∃ s, s = tx (lnL false d) := ⟨_, rfl⟩
          rw [← hln] at CL0
          have HLN : Hid (ln.data.toList = lnL false d ∧ ln.size ≤ 40) := Lib.hid (by rw [hln]; exact ⟨rfl, by rw [tx_size]; exact HLD.out.2.2⟩)
          have q5 : (9223372036854775807 < ln.size + 1) = False := by
            have := HLN.out.2
            simp only [eq_iff_iff, iff_false]
            omega
          obtain ⟨TJ, hTJ⟩ : ∃ t, t = L0 ++ itm false (d + 1) (I.take (j + i)) := ⟨_, rfl⟩
          have HTL : Hid (TJ.length ≤ l.length + 40000) := Lib.hid (by rw [hTJ]; exact (HTN.out (j + i)).1)
          rw [← hTJ] at HR
          have HTE : Hid (TJ ++ (ln ++ ⟨#[41]⟩).data.toList = l ++ x.pd false d) := Lib.hid (by
            rw [hTJ, HIL.out, HTX.out, HL0.out]
            have := HLN.out.1
            simp [List.append_assoc, this])
          have HS9 : Hid (TJ.length + (ln ++ ⟨#[41]⟩).size ≤ 140737488355328) := Lib.hid (by rw [ByteArray.size_append]; have := HTL.out; have := HLN.out.2; have := HLD.out; show _ + (_ + 1) ≤ _; omega)
          clear hln hTJ
          go_wp2_with (first | (go_at_call 45; (with_reducible refine (CL0.out _).mono ?_); rintro e w7 ⟨rfl, hb⟩; have HQ7 := Lib.hid (HR.out.next HBS.out hb); clear hb) | (go_at_call 76; (with_reducible refine (CW.out _ _ _ HQ7.out.bu HS9.out (Nat.le_trans HBS.out HQ7.out.bel.size)).mono ?_); rintro e w8 ⟨rfl, hbu, hbl, hot⟩; have HQ8 := Lib.hid (HQ7.out.put hbu hbl hot); clear hbu hbl hot))
          go_end0
          exact ⟨rfl, HQ8.out.bu.cast HTE.out, HQ8.out.bel, HQ8.out.ot⟩
set_option maxRecDepth 100000 in
set_option maxHeartbeats 16000000 in
theorem putDeepN_true {S : Nat → Prop} {B b : Nat} (hS : ∀ b, S b → b < B) {W0 : World} (hT : PowN W0) (hW0 : W0.heap.size ≤ B) (x : Tr) (hb : x.blt = true) (he : x.er) (hi : ∀ y ∈ x.terms, PtC true S B b W0 y) : PtC true S B b W0 x := by
  intro d eo ek tu tk l w hd hcn hl hB hW hke hkt hxe hxt hbu
  obtain ⟨p1, p2, p3, p4, p5, p6⟩ := tblt_parts hb
  have hel := (Tr.er_eq x).1 he
  have hcq := x.cnt_eq
  have hdq := x.dep_eq
  have hpd := x.pd_eq true d
  have hpl := pd_len true x hb he d (by omega)
  have CW : Hid (∀ l s W, BuS B b l W → l.length + s.size ≤ 140737488355328 → B ≤ W.heap.size → Calls Tryd.prog 76 #[.pointer (some ⟨b, 0, none⟩), .string s] W fun e w' => e = .returned (.tuple #[.int .i64 s.size, .nilIface]) ∧ BuS B b (l ++ s.data.toList) w' ∧ Below B W w' ∧ Ot W w') := Lib.hid fun l s W h1 h2 h3 => writeString_any B b l s W h1 h2 h3
  have CWD : Hid (∀ V, Calls Tryd.prog 107 #[.int .i64 x.op] V fun e w' => e = .returned (.string (tx (wdT x.op))) ∧ V = w') := Lib.hid fun V => word_any x.op p6 V
  have CLN : Hid (∀ k : Nat, k ≤ 100 → ∀ V, Calls Tryd.prog 46 #[.int .i64 k] V fun e w' => e = .returned (.string (tx (lnL true k))) ∧ Below V.heap.size V w') := Lib.hid fun k hk V => line_true k (by omega) V
  have CCM : Hid (∀ V, Calls Tryd.prog 108 #[.string (tx (lnL true (d + 1)))] V fun e w' => e = .returned (.string (tx (cmL (lnL true (d + 1))))) ∧ V = w') := Lib.hid fun V => comma_any _ (by have := lnL_len true (d + 1); omega) V
  obtain ⟨es, hes⟩ : ∃ l, l = x.exprs := ⟨_, rfl⟩
  obtain ⟨ts, hts⟩ : ∃ l, l = x.terms := ⟨_, rfl⟩
  obtain ⟨m, hm⟩ : ∃ m, m = es.length := ⟨_, rfl⟩
  obtain ⟨m2, hm2⟩ : ∃ m, m = ts.length := ⟨_, rfl⟩
  obtain ⟨xo, hxo⟩ : ∃ v, v = x.op := ⟨_, rfl⟩
  obtain ⟨xs, hxs⟩ : ∃ v, v = x.nm := ⟨_, rfl⟩
  have htv : trV x eo ek tu tk = .agg #[.int .i64 xo, .string xs, .slice eo m ek, .slice tu m2 tk] := by rw [hm, hm2, hes, hts, hxo, hxs]
  rw [htv]
  rw [← hes] at p1 p4 hel hcq hdq hpd hke hxe
  rw [← hts] at p2 p5 hel hcq hdq hpd hkt hxt hi
  rw [← hxo] at p1 p2 p3 p6 hpd CWD
  rw [← hxs] at p3 hpd
  rw [← hm] at p1
  rw [← hm2] at p2
  have hm1 : m ≤ 1 := by unfold kidE at p1; (repeat' split at p1) <;> omega
  have hm3 : m2 ≤ 2 := by unfold kidT at p2; (repeat' split at p2) <;> omega
  have HPD := Lib.hid hpd
  have HPL := Lib.hid hpl
  have HL := Lib.hid hl
  have HD := Lib.hid hd
  have HCN := Lib.hid hcn
  have HBS := Lib.hid hB
  have HM := Lib.hid (And.intro hm hm2)
  have HM1 := Lib.hid (And.intro hm1 hm3)
  have GA := Lib.hid (PtA.made (ec := #[.int .i64 xo, .string xs, .slice eo m ek, .slice tu m2 tk]) hB hbu)
  have HX : Hid (∀ V, Below B w V → ExL S V es eo ∧ TrL S V ts tu) := Lib.hid fun V hV => ⟨hxe.stay (fun _ h => h) fun b hb => hV.block b (hS b hb), hxt.stay (fun _ h => h) fun b hb => hV.block b (hS b hb)⟩
  have HW0 : Hid (∀ V, Below B w V → Below B W0 V) := Lib.hid fun V hV => hW.trans hV
  have CE : Hid (∀ y ∈ es, ∀ (co : Option Addr) (ck : Nat) (l : List UInt8) V, Below B w V → y.args.length ≤ ck → ExL S V y.args co → BuS B b l V → l.length ≤ 900000 → Calls Tryd.prog 35 #[.pointer (some ⟨b, 0, none⟩), exV y co ck, .int .i64 0] V (PuP B b (l ++ y.pr) V)) := Lib.hid fun y hy co ck l V hV h1 h2 h3 h4 => by
    have hyc : y.cnt ≤ 200 := by
      obtain ⟨j, hj⟩ := List.mem_iff_getElem?.1 hy
      have := cnts_take2 hj
      omega
    have := putExpr_any hS hT hW0 y (p4 y hy) (hel.1 y hy) 0 co ck l V (Int.le_refl 0) (Nat.le_trans hB hV.size) (hW.trans hV) h1 h2 h3 (by omega)
    rw [pin_zero] at this
    exact this
  have CT : Hid (∀ y ∈ ts, ∀ (eo : Option Addr) (ek : Nat) (tu : Option Addr) (tk : Nat) (l : List UInt8) V, Below B w V → y.exprs.length ≤ ek → y.terms.length ≤ tk → ExL S V y.exprs eo → TrL S V y.terms tu → BuS B b l V → l.length ≤ 41000 * (d + 2) → Calls Tryd.prog 83 #[.pointer (some ⟨b, 0, none⟩), trV y eo ek tu tk, .int .i64 (d + 1 : Nat), clV true] V (PuP B b (l ++ y.pd true (d + 1)) V)) := Lib.hid fun y hy eo ek tu tk l V hV h1 h2 h3 h4 h5 h6 => by
    obtain ⟨j, hj⟩ := List.mem_iff_getElem?.1 hy
    have h7 := cntsT_take2 hj
    have h8 := depsT_get hj
    exact hi y hy (d + 1) eo ek tu tk l V (by omega) (by omega) (by omega) (Nat.le_trans hB hV.size) (hW.trans hV) h1 h2 h3 h4 h5
  have HSW : Hid (l.length + (tx (wdT xo)).size ≤ 140737488355328) := Lib.hid (by rw [tx_size]; have := wdT_len xo; omega)
  have HNM : Hid (xo = 2 → xs.data.toList.length ≤ 16) := Lib.hid fun h => by
    have := p3 h
    unfold fre at this
    simp only [Bool.and_eq_true] at this
    exact nmd_len this.1
  have HOP := Lib.hid p6
  have HSB := Lib.hid hS
  clear hb he hi hd hcn hl hB hW hke hkt hxe hxt hbu p1 p2 p3 p4 p5 p6 hel hcq hdq hpd hpl hm1 hm3 hT hW0 htv hes hts hm hm2 hxo hxs hS
  rw [show clV true = .func (.func 46) #[] #[] from rfl] at CT ⊢
  go_enter Tryd.func83, Tryd.ntmps83
  go_upto_region 1 with fail
  obtain ⟨z, hz⟩ : ∃ z, z = w.heap.size := ⟨_, rfl⟩
  obtain ⟨W, hW⟩ : ∃ X, w.alloc (.cells #[.int .i64 xo, .string xs, .slice eo m ek, .slice tu m2 tk] 25) = X := ⟨_, rfl⟩
  have g1 := GA.out W hW
  rw [hW, ← hz]
  rw [← hz] at g1
  have HA := Lib.hid g1
  obtain ⟨c0, c1, c2, c3⟩ := quad g1.ez
  clear hW g1 GA hz
  go_upto_region 2 with (first | (go_at_call 107; (with_reducible refine (CWD.out _).mono ?_); rintro e w2 ⟨rfl, rfl⟩) | (go_at_call 76; (with_reducible refine (CW.out _ _ _ HA.out.bu HSW.out (Nat.le_trans HBS.out HA.out.bel.size)).mono ?_); rintro e w3 ⟨rfl, hbu, hbl, hot⟩; have HA3 := Lib.hid (HA.out.put hbu hbl hot); clear hbu hbl hot))
  clear c0 c1 c2 c3
  obtain ⟨c0, c1, c2, c3⟩ := quad HA3.out.ez
  by_cases q1 : xo = 1
  · subst q1
    go_wp2_with fail
    go_end0
    exact ⟨rfl, HA3.out.bu.cast (by rw [HPD.out]; unfold tdN; rw [if_pos rfl, List.append_nil]), HA3.out.bel, HA3.out.ot⟩
  have e1 : (xo == 1) = false := by simp [q1]
  have HS1 : Hid ((l ++ (tx (wdT xo)).data.toList).length + (⟨#[40]⟩ : ByteArray).size ≤ 140737488355328) := Lib.hid (by rw [List.length_append]; have := wdT_len xo; have := HL.out; have := HD.out; show _ + (wdT xo).length + 1 ≤ _; omega)
  go_upto_region 4 with (go_at_call 76; (with_reducible refine (CW.out _ _ _ HA3.out.bu HS1.out (Nat.le_trans HBS.out HA3.out.bel.size)).mono ?_); rintro e w4 ⟨rfl, hbu, hbl, hot⟩; have HA4 := Lib.hid (HA3.out.put hbu hbl hot); clear hbu hbl hot)
  clear c0 c1 c2 c3
  obtain ⟨c0, c1, c2, c3⟩ := quad HA4.out.ez
  by_cases q2 : xo = 2
  · subst q2
    have hn := HNM.out rfl
    have hz : xs.size ≤ 16 := hn
    have q5 : (9223372036854775807 < xs.size + 1) = False := by
      simp only [eq_iff_iff, iff_false]
      omega
    have HS2 : Hid ((l ++ (tx (wdT 2)).data.toList ++ (⟨#[40]⟩ : ByteArray).data.toList).length + (xs ++ ⟨#[41]⟩).size ≤ 140737488355328) := Lib.hid (by
      rw [List.length_append, List.length_append, ByteArray.size_append]
      have := wdT_len 2
      have := HL.out
      have := HD.out
      show _ + (wdT 2).length + 1 + (_ + 1) ≤ _
      omega)
    clear hn hz
    go_wp2_with (go_at_call 76; (with_reducible refine (CW.out _ _ _ HA4.out.bu HS2.out (Nat.le_trans HBS.out HA4.out.bel.size)).mono ?_); rintro e w5 ⟨rfl, hbu, hbl, hot⟩; have HA5 := Lib.hid (HA4.out.put hbu hbl hot); clear hbu hbl hot)
    go_end0
    exact ⟨rfl, HA5.out.bu.cast (by rw [HPD.out]; unfold tdN; rw [if_neg (by omega), if_pos rfl]; simp [List.append_assoc]), HA5.out.bel, HA5.out.ot⟩

  have e2 : (xo == 2) = false := by simp [q2]
  obtain ⟨D1, hD1⟩ : ∃ v : Int, v = ((d + 1 : Nat) : Int) := ⟨_, rfl⟩
  have y9 : IntKind.i64.wrap ((d : Int) + 1) = D1 := by rw [hD1, IntKind.wrap_i64]; have := HD.out; omega
  have CL1 : Hid (∀ V, Calls Tryd.prog 46 #[.int .i64 D1] V fun e w' => e = .returned (.string (tx (lnL true (d + 1)))) ∧ Below V.heap.size V w') := Lib.hid fun V => by rw [hD1]; exact CLN.out (d + 1) (by have := HD.out; omega) V
  have CL0 : Hid (∀ V, Calls Tryd.prog 46 #[.int .i64 (d : Nat)] V fun e w' => e = .returned (.string (tx (lnL true d))) ∧ Below V.heap.size V w') := Lib.hid fun V => CLN.out d (by have := HD.out; omega) V
  rw [← hD1] at CT
  obtain ⟨I, hI⟩ : ∃ I, I = es.map Xp.pr ++ ts.map fun y => y.pd true (d + 1) := ⟨_, rfl⟩
  rw [← hI] at HPD
  have HTX : Hid (x.pd true d = wdT xo ++ ([40] ++ itm true (d + 1) I ++ lnL true d ++ [41])) := Lib.hid (by rw [HPD.out]; unfold tdN; rw [if_neg q1, if_neg q2]; simp)
  obtain ⟨L0, hL0⟩ : ∃ t, t = l ++ wdT xo ++ [40] := ⟨_, rfl⟩
  have HL0 := Lib.hid hL0
  have HA5 : Hid (PtA B b z #[.int .i64 xo, .string xs, .slice eo m ek, .slice tu m2 tk] L0 w w4) := Lib.hid (HA4.out.cast (by rw [hL0]))
  have HTN : Hid (∀ n, (L0 ++ itm true (d + 1) (I.take n)).length ≤ l.length + 40000 ∧ (ahd true (d + 1) n).length ≤ 100) := Lib.hid fun n => by
    obtain ⟨r, hr⟩ := itm_pre true (d + 1) (I.take n) (I.drop n)
    rw [List.take_append_drop] at hr
    have h1 := congrArg List.length HTX.out
    have h2 := congrArg List.length hr
    have h3 := HPL.out
    have h4 := HCN.out
    have h5 := ahd_len true (d + 1) n
    have h6 := HD.out
    simp only [List.length_append, List.length_cons, List.length_nil] at h1 h2
    refine ⟨?_, by omega⟩
    rw [hL0]
    simp only [List.length_append, List.length_cons, List.length_nil]
    omega
  have HTK : ∀ (n : Nat) (t : List UInt8), I[n]? = some t → I.take (n + 1) = I.take n ++ [t] ∧ (I.take n).length = n := fun n t h => ⟨by rw [List.take_add_one, h]; rfl, by rw [List.length_take]; have := (List.getElem?_eq_some_iff.1 h).1; omega⟩
  have HIE : Hid (∀ (j : Nat) y, es[j]? = some y → itm true (d + 1) (I.take (j + 1)) = itm true (d + 1) (I.take j) ++ ahd true (d + 1) j ++ y.pr) := Lib.hid fun j y h => by
    obtain ⟨h1, h2⟩ := HTK j y.pr (by rw [hI, List.getElem?_append_left (by rw [List.length_map]; exact (List.getElem?_eq_some_iff.1 h).1)]; simp [h])
    rw [h1, itm_step, h2]
  have HIT : Hid (∀ (j : Nat) y, ts[j]? = some y → itm true (d + 1) (I.take (m + j + 1)) = itm true (d + 1) (I.take (m + j)) ++ ahd true (d + 1) (m + j) ++ y.pd true (d + 1)) := Lib.hid fun j y h => by
    obtain ⟨h1, h2⟩ := HTK (m + j) (y.pd true (d + 1)) (by rw [hI, List.getElem?_append_right (by rw [List.length_map, ← HM.out.1]; omega), List.length_map, ← HM.out.1, show m + j - m = j from by omega]; simp [h])
    rw [h1, itm_step, h2]
  have HIL : Hid (I.take (m + m2) = I) := Lib.hid (List.take_of_length_le (by rw [hI, List.length_append, List.length_map, List.length_map, ← HM.out.1, ← HM.out.2]; exact Nat.le_refl _))
  have HAH : Hid (∀ n, tx (cmL (lnL true (d + 1))) = tx (ahd true (d + 1) (n + 1))) := Lib.hid fun n => by unfold ahd; rw [if_neg (by omega)]
  have HLD : Hid (l.length ≤ 41000 * (d + 1) ∧ d ≤ 16 ∧ (lnL true d).length ≤ 40) := Lib.hid ⟨HL.out, by have := HD.out; omega, by have := lnL_len true d; have := HD.out; omega⟩
  clear HTK hI hD1 hL0 HA HA3 HS1 HSW HNM HPD HPL
  go_upto_region 7 with (go_at_call 46; (with_reducible refine (CL1.out _).mono ?_); rintro e w5 ⟨rfl, hb⟩; have HA6 := Lib.hid (HA5.out.next HBS.out hb); clear hb)
  clear c0 c1 c2 c3
  obtain ⟨c0, c1, c2, c3⟩ := quad HA6.out.ez
  go_upto_region 8 with fail
  clear c0 c1 c2 c3
  go_loopw [38, 8] (fun v s wr => ∃ j : Nat, j ≤ m ∧ v = .int .i64 j ∧ s = .string (tx (ahd true (d + 1) j)) ∧ Hid (PtA B b z #[.int .i64 xo, .string xs, .slice eo m ek, .slice tu m2 tk] (L0 ++ itm true (d + 1) (I.take j)) w wr)) (fun v _ _ => m - (intOf v).toNat)
  case atStart => exact ⟨0, by omega, rfl, rfl, Lib.hid (HA6.out.cast (by simp [itm]))⟩
  case round =>
    obtain ⟨j, hj, rfl, rfl, HQ⟩ := hrel
    obtain ⟨hm1, hm3⟩ := HM1.out
    by_cases hlt : j < m
    · obtain ⟨y, hy⟩ : ∃ y, es[j]? = some y := ⟨_, List.getElem?_eq_getElem (by rw [← HM.out.1]; exact hlt)⟩
      obtain ⟨a, co, ck, rfl, hsa, hck, ⟨y0, y1, y2, y3⟩, hyl⟩ := (HX.out wr HQ.out.bel).1.get hy
      have hmem := List.mem_of_getElem? hy
      have HNX := Lib.hid (HIE.out j y hy)
      have HYX : Hid (∀ V, Below B w V → ExL S V y.args co) := Lib.hid fun V hV => by
        obtain ⟨a2, co2, ck2, ha2, _, _, ⟨_, _, _, z3⟩, hyl2⟩ := (HX.out V hV).1.get hy
        cases ha2
        have hab : (a.add (j * 4)).block < B := by rw [add_block]; exact HSB.out _ hsa
        have h1 : V.cell? ⟨(a.add (j * 4)).block, (a.add (j * 4)).off + 3, none⟩ = w.cell? ⟨(a.add (j * 4)).block, (a.add (j * 4)).off + 3, none⟩ := hV.cell (p := ⟨(a.add (j * 4)).block, (a.add (j * 4)).off + 3, none⟩) hab
        have h2 : wr.cell? ⟨(a.add (j * 4)).block, (a.add (j * 4)).off + 3, none⟩ = w.cell? ⟨(a.add (j * 4)).block, (a.add (j * 4)).off + 3, none⟩ := HQ.out.bel.cell (p := ⟨(a.add (j * 4)).block, (a.add (j * 4)).off + 3, none⟩) hab
        rw [h1, ← h2, y3] at z3
        injection z3 with z3
        injection z3 with z3
        rw [z3]
        exact hyl2
      have CEY := Lib.hid (CE.out y hmem co ck)
      have HCK := Lib.hid hck
      obtain ⟨TJ, hTJ⟩ : ∃ t, t = L0 ++ itm true (d + 1) (I.take j) := ⟨_, rfl⟩
      obtain ⟨ah, hah⟩ : ∃ t, t = ahd true (d + 1) j := ⟨_, rfl⟩
      have HTL : Hid (TJ.length ≤ l.length + 40000 ∧ ah.length ≤ 100) := Lib.hid (by rw [hTJ, hah]; exact HTN.out j)
      have HQJ : Hid (PtA B b z #[.int .i64 xo, .string xs, .slice (some a) m ek, .slice tu m2 tk] TJ w wr) := Lib.hid (by rw [hTJ]; exact HQ.out)
      obtain ⟨ty, hty⟩ : ∃ t, t = y.pr := ⟨_, rfl⟩
      have HN2 : Hid (L0 ++ itm true (d + 1) (I.take (j + 1)) = TJ ++ ah ++ ty) := Lib.hid (by rw [HNX.out, hTJ, hah, hty]; simp [List.append_assoc])
      rw [← hty] at CEY
      rw [← hah]
      obtain ⟨cm, hcm⟩ : ∃ c, c = y.args.length := ⟨_, rfl⟩
      obtain ⟨yo, hyo⟩ : ∃ v, v = y.op := ⟨_, rfl⟩
      obtain ⟨yn, hyn⟩ : ∃ v, v = y.n := ⟨_, rfl⟩
      obtain ⟨ys, hys⟩ : ∃ v, v = y.nm := ⟨_, rfl⟩
      rw [← hcm] at y3
      rw [← hyo] at y0
      rw [← hyn] at y1
      rw [← hys] at y2
      rw [show exV y co ck = .agg #[.int .i64 yo, .int .i64 yn, .string ys, .slice co cm ck] from by rw [hcm, hyo, hyn, hys]] at CEY
      obtain ⟨⟨r0, r1, r2, r3⟩, p0, p1, p2, p3⟩ := new_zero wr (.int .i64 0) (.int .i64 0) (.string ⟨#[]⟩) (.slice none 0 0) 48
      obtain ⟨u, hu⟩ : ∃ u, u = wr.heap.size := ⟨_, rfl⟩
      have j0 : (0 : Int) ≤ (j : Int) := by omega
      have j1 : (j : Int) < (m : Int) := by omega
      have HS5 : Hid (TJ.length + (tx ah).size ≤ 140737488355328) := Lib.hid (by rw [tx_size]; have := HTL.out; have := HLD.out; omega)
      clear hcm hyo hyn hys hsa hck hyl hy hmem hTJ hah hty HQ HNX HIE
      go_upto_region 10 with fail
      clear r0 r1 r2 r3 p0 p1 p2 p3 y0 y1 y2 y3
      obtain ⟨W3, hW3⟩ : ∃ X, wr.alloc (.cells #[.int .i64 yo, .int .i64 yn, .string ys, .slice co cm ck] 48) = X := ⟨_, rfl⟩
      have HB3 := Lib.hid (made_box wr _ W3 hW3).1.2
      have hb3 : W3.heap[wr.heap.size]? = some (.cells #[.int .i64 yo, .int .i64 yn, .string ys, .slice co cm ck] 48 (0, 0)) := by rw [← hW3]; exact heap_alloc_new _ _
      rw [hW3, ← hu]
      rw [← hu] at hb3
      have HU3 := Lib.hid hb3
      have HQ3 := Lib.hid (HQJ.out.next HBS.out HB3.out)
      clear hb3 hW3 hu
      go_upto_region 11 with (go_at_call 76; (with_reducible refine (CW.out _ _ _ HQ3.out.bu HS5.out (Nat.le_trans HBS.out HQ3.out.bel.size)).mono ?_); rintro e w5 ⟨rfl, hbu, hbl, hot⟩; have HU5 := Lib.hid (hot.block u _ _ _ HU3.out ne_types.1 ne_types.2); have HQ5 := Lib.hid (HQ3.out.put hbu hbl hot); clear hbu hbl hot)
      obtain ⟨x0, x1, x2, x3⟩ := quad HU5.out
      have CE5 := Lib.hid (CEY.out (TJ ++ ah) w5 HQ5.out.bel HCK.out (HYX.out _ HQ5.out.bel) (HQ5.out.bu.cast rfl) (by rw [List.length_append]; have := HTL.out; have := HLD.out; omega))
      go_upto_region 12 with (go_at_call 35; (with_reducible refine CE5.out.mono ?_); rintro e w6 ⟨rfl, hbu, hbl, hot⟩; have HQ6 := Lib.hid (HQ5.out.put hbu hbl hot); clear hbu hbl hot)
      clear x0 x1 x2 x3
      go_wp2_with (first | (go_at_call 46; (with_reducible refine (CL1.out _).mono ?_); rintro e w7 ⟨rfl, hb⟩; have HQ7 := Lib.hid (HQ6.out.next HBS.out hb); clear hb) | (go_at_call 108; (with_reducible refine (CCM.out _).mono ?_); rintro e w8 ⟨rfl, rfl⟩))
      go_roundw
      case rel => exact ⟨j + 1, by omega, by go_num, by rw [HAH.out j], Lib.hid (HQ7.out.cast HN2.out.symm)⟩
      case measure => simp [intOf]; omega
    · obtain rfl : j = m := by omega
      have HQE : Hid (PtA B b z #[.int .i64 xo, .string xs, .slice eo j ek, .slice tu m2 tk] (L0 ++ itm true (d + 1) (I.take (j + 0))) w wr) := Lib.hid HQ.out
      obtain ⟨c0, c1, c2, c3⟩ := quad HQE.out.ez
      clear HQ HA4 HA5 HA6 CE HIE
      go_upto_region 15 with fail
      clear c0 c1 c2 c3
      go_loopw [57, 8] (fun v s wr => ∃ i : Nat, i ≤ m2 ∧ v = .int .i64 i ∧ s = .string (tx (ahd true (d + 1) (j + i))) ∧ Hid (PtA B b z #[.int .i64 xo, .string xs, .slice eo j ek, .slice tu m2 tk] (L0 ++ itm true (d + 1) (I.take (j + i))) w wr)) (fun v _ _ => m2 - (intOf v).toNat)
      case atStart => exact ⟨0, by omega, rfl, rfl, HQE⟩
      case round =>
        obtain ⟨i, hi, rfl, rfl, HR⟩ := hrel
        by_cases hlt2 : i < m2
        · obtain ⟨y, hy⟩ : ∃ y, ts[i]? = some y := ⟨_, List.getElem?_eq_getElem (by rw [← HM.out.2]; exact hlt2)⟩
          obtain ⟨a, fo, fk, go, gk, rfl, hsa, hck, hdk, ⟨y0, y1, y2, y3⟩, hyl, hzl⟩ := (HX.out _ HR.out.bel).2.get hy
          have hmem := List.mem_of_getElem? hy
          have HNX := Lib.hid (HIT.out i y hy)
          have HYX : Hid (∀ V, Below B w V → ExL S V y.exprs fo ∧ TrL S V y.terms go) := Lib.hid fun V hV => by
            obtain ⟨a2, fo2, fk2, go2, gk2, ha2, _, _, _, ⟨_, _, z2, z3⟩, hyl2, hzl2⟩ := (HX.out V hV).2.get hy
            cases ha2
            have hab : (a.add (i * 4)).block < B := by rw [add_block]; exact HSB.out _ hsa
            have h1 : ∀ q, V.cell? ⟨(a.add (i * 4)).block, (a.add (i * 4)).off + q, none⟩ = w.cell? ⟨(a.add (i * 4)).block, (a.add (i * 4)).off + q, none⟩ := fun q => hV.cell (p := ⟨(a.add (i * 4)).block, (a.add (i * 4)).off + q, none⟩) hab
            have h2 : ∀ q, _ = w.cell? ⟨(a.add (i * 4)).block, (a.add (i * 4)).off + q, none⟩ := fun q => HR.out.bel.cell (p := ⟨(a.add (i * 4)).block, (a.add (i * 4)).off + q, none⟩) hab
            rw [h1, ← h2, y2] at z2
            rw [h1, ← h2, y3] at z3
            injection z2 with z2
            injection z2 with z2
            injection z3 with z3
            injection z3 with z3
            rw [z2, z3]
            exact ⟨hyl2, hzl2⟩
          have CEY := Lib.hid (CT.out y hmem fo fk go gk)
          have HCK := Lib.hid (And.intro hck hdk)
          obtain ⟨TJ, hTJ⟩ : ∃ t, t = L0 ++ itm true (d + 1) (I.take (j + i)) := ⟨_, rfl⟩
          obtain ⟨ah, hah⟩ : ∃ t, t = ahd true (d + 1) (j + i) := ⟨_, rfl⟩
          have HTL : Hid (TJ.length ≤ l.length + 40000 ∧ ah.length ≤ 100) := Lib.hid (by rw [hTJ, hah]; exact HTN.out (j + i))
          rw [← hTJ] at HR
          obtain ⟨ty, hty⟩ : ∃ t, t = y.pd true (d + 1) := ⟨_, rfl⟩
          have HN2 : Hid (L0 ++ itm true (d + 1) (I.take (j + (i + 1))) = TJ ++ ah ++ ty) := Lib.hid (by rw [show j + (i + 1) = j + i + 1 from rfl, HNX.out, hTJ, hah, hty]; simp [List.append_assoc])
          rw [← hty] at CEY
          rw [← hah]
          obtain ⟨cm, hcm⟩ : ∃ c, c = y.exprs.length := ⟨_, rfl⟩
          obtain ⟨cn, hcn2⟩ : ∃ c, c = y.terms.length := ⟨_, rfl⟩
          obtain ⟨yo, hyo⟩ : ∃ v, v = y.op := ⟨_, rfl⟩
          obtain ⟨ys, hys⟩ : ∃ v, v = y.nm := ⟨_, rfl⟩
          rw [← hcm] at y2
          rw [← hcn2] at y3
          rw [← hyo] at y0
          rw [← hys] at y1
          rw [show trV y fo fk go gk = .agg #[.int .i64 yo, .string ys, .slice fo cm fk, .slice go cn gk] from by rw [hcm, hcn2, hyo, hys]] at CEY
          obtain ⟨⟨r0, r1, r2, r3⟩, p0, p1, p2, p3⟩ := new_zero wr (.int .i64 0) (.string ⟨#[]⟩) (.slice none 0 0) (.slice none 0 0) 25
          obtain ⟨u, hu⟩ : ∃ u, u = wr.heap.size := ⟨_, rfl⟩
          have j0 : (0 : Int) ≤ (i : Int) := by omega
          have j1 : (i : Int) < (m2 : Int) := by omega
          have HS5 : Hid (TJ.length + (tx ah).size ≤ 140737488355328) := Lib.hid (by rw [tx_size]; have := HTL.out; have := HLD.out; omega)
          clear hcm hcn2 hyo hys hsa hck hdk hyl hzl hy hmem hTJ hah hty HNX HIT
          go_upto_region 17 with fail
          clear r0 r1 r2 r3 p0 p1 p2 p3 y0 y1 y2 y3
          obtain ⟨W3, hW3⟩ : ∃ X, wr.alloc (.cells #[.int .i64 yo, .string ys, .slice fo cm fk, .slice go cn gk] 25) = X := ⟨_, rfl⟩
          have HB3 := Lib.hid (made_box wr _ W3 hW3).1.2
          have hb3 : W3.heap[wr.heap.size]? = some (.cells #[.int .i64 yo, .string ys, .slice fo cm fk, .slice go cn gk] 25 (0, 0)) := by rw [← hW3]; exact heap_alloc_new _ _
          rw [hW3, ← hu]
          rw [← hu] at hb3
          have HU3 := Lib.hid hb3
          have HQ3 := Lib.hid (HR.out.next HBS.out HB3.out)
          clear hb3 hW3 hu
          go_upto_region 18 with (go_at_call 76; (with_reducible refine (CW.out _ _ _ HQ3.out.bu HS5.out (Nat.le_trans HBS.out HQ3.out.bel.size)).mono ?_); rintro e w5 ⟨rfl, hbu, hbl, hot⟩; have HU5 := Lib.hid (hot.block u _ _ _ HU3.out ne_typesT.1 ne_typesT.2); have HQ5 := Lib.hid (HQ3.out.put hbu hbl hot); clear hbu hbl hot)
          obtain ⟨x0, x1, x2, x3⟩ := quad HU5.out
          have CE5 := Lib.hid (CEY.out (TJ ++ ah) w5 HQ5.out.bel HCK.out.1 HCK.out.2 (HYX.out _ HQ5.out.bel).1 (HYX.out _ HQ5.out.bel).2 (HQ5.out.bu.cast rfl) (by rw [List.length_append]; have := HTL.out; have := HLD.out; omega))
          go_upto_region 19 with (go_at_call 83; (with_reducible refine CE5.out.mono ?_); rintro e w6 ⟨rfl, hbu, hbl, hot⟩; have HQ6 := Lib.hid (HQ5.out.put hbu hbl hot); clear hbu hbl hot)
          clear x0 x1 x2 x3
          go_wp2_with (first | (go_at_call 46; (with_reducible refine (CL1.out _).mono ?_); rintro e w7 ⟨rfl, hb⟩; have HQ7 := Lib.hid (HQ6.out.next HBS.out hb); clear hb) | (go_at_call 108; (with_reducible refine (CCM.out _).mono ?_); rintro e w8 ⟨rfl, rfl⟩))
          go_roundw
          case rel => exact ⟨i + 1, by omega, by go_num, by rw [HAH.out (j + i)]; rfl, Lib.hid (HQ7.out.cast HN2.out.symm)⟩
          case measure => simp [intOf]; omega
        · obtain rfl : i = m2 := by omega
          obtain ⟨ln, hln⟩ : ∃ s, s = tx (lnL true d) := ⟨_, rfl⟩
          rw [← hln] at CL0
          have HLN : Hid (ln.data.toList = lnL true d ∧ ln.size ≤ 40) := Lib.hid (by rw [hln]; exact ⟨rfl, by rw [tx_size]; exact HLD.out.2.2⟩)
          have q5 : (9223372036854775807 < ln.size + 1) = False := by
            have := HLN.out.2
            simp only [eq_iff_iff, iff_false]
            omega
          obtain ⟨TJ, hTJ⟩ : ∃ t, t = L0 ++ itm true (d + 1) (I.take (j + i)) := ⟨_, rfl⟩
          have HTL : Hid (TJ.length ≤ l.length + 40000) := Lib.hid (by rw [hTJ]; exact (HTN.out (j + i)).1)
          rw [← hTJ] at HR
          have HTE : Hid (TJ ++ (ln ++ ⟨#[41]⟩).data.toList = l ++ x.pd true d) := Lib.hid (by
            rw [hTJ, HIL.out, HTX.out, HL0.out]
            have := HLN.out.1
            simp [List.append_assoc, this])
          have HS9 : Hid (TJ.length + (ln ++ ⟨#[41]⟩).size ≤ 140737488355328) := Lib.hid (by rw [ByteArray.size_append]; have := HTL.out; have := HLN.out.2; have := HLD.out; show _ + (_ + 1) ≤ _; omega)
          clear hln hTJ
          go_wp2_with (first | (go_at_call 46; (with_reducible refine (CL0.out _).mono ?_); rintro e w7 ⟨rfl, hb⟩; have HQ7 := Lib.hid (HR.out.next HBS.out hb); clear hb) | (go_at_call 76; (with_reducible refine (CW.out _ _ _ HQ7.out.bu HS9.out (Nat.le_trans HBS.out HQ7.out.bel.size)).mono ?_); rintro e w8 ⟨rfl, hbu, hbl, hot⟩; have HQ8 := Lib.hid (HQ7.out.put hbu hbl hot); clear hbu hbl hot))
          go_end0
          exact ⟨rfl, HQ8.out.bu.cast HTE.out, HQ8.out.bel, HQ8.out.ot⟩
/-- The program's putDeep of any right term, with either closure. -/
theorem putDeep_any (c : Bool) {S : Nat → Prop} {B b : Nat} (hS : ∀ b, S b → b < B) {W0 : World} (hT : PowN W0) (hW0 : W0.heap.size ≤ B) (x : Tr) : x.blt = true → x.er → PtC c S B b W0 x := by
  induction x using Tr.ind with
  | h x IH =>
  intro hb he
  obtain ⟨_, _, _, _, p5, _⟩ := tblt_parts hb
  have hel := (Tr.er_eq x).1 he
  cases c with
  | false => exact putDeepN_false hS hT hW0 x hb he fun y hy => IH y hy (p5 y hy) (hel.2 y hy)
  | true => exact putDeepN_true hS hT hW0 x hb he fun y hy => IH y hy (p5 y hy) (hel.2 y hy)
set_option maxRecDepth 100000 in
theorem putTerm_any (c : Bool) {S : Nat → Prop} {B b : Nat} (hS : ∀ b, S b → b < B) {W0 : World} (hT : PowN W0) (hW0 : W0.heap.size ≤ B) (x : Tr) (hb : x.blt = true) (he : x.er) (eo : Option Addr) (ek : Nat) (tu : Option Addr) (tk : Nat) (w : World) (hd : x.dep ≤ 16) (hcn : x.cnt ≤ 200) (hB : B ≤ w.heap.size) (hW : Below B W0 w) (hke : x.exprs.length ≤ ek) (hkt : x.terms.length ≤ tk) (hxe : ExL S w x.exprs eo) (hxt : TrL S w x.terms tu) (hbu : BuS B b [] w) :
    Calls Tryd.prog 44 #[.pointer (some ⟨b, 0, none⟩), trV x eo ek tu tk, clV c] w (PuP B b (x.pd c 0) w) := by
  have CP : Hid (∀ V, Below B w V → BuS B b [] V → Calls Tryd.prog 83 #[.pointer (some ⟨b, 0, none⟩), trV x eo ek tu tk, .int .i64 0, clV c] V (PuP B b (x.pd c 0) V)) := Lib.hid fun V hV hv => putDeep_any c hS hT hW0 x hb he 0 eo ek tu tk [] V (by omega) hcn (Nat.zero_le _) (Nat.le_trans hB hV.size) (hW.trans hV) hke hkt (hxe.stay (fun _ h => h) fun b hb => hV.block b (hS b hb)) (hxt.stay (fun _ h => h) fun b hb => hV.block b (hS b hb)) hv
  obtain ⟨m, hm⟩ : ∃ m, m = x.exprs.length := ⟨_, rfl⟩
  obtain ⟨m2, hm2⟩ : ∃ m, m = x.terms.length := ⟨_, rfl⟩
  obtain ⟨xo, hxo⟩ : ∃ v, v = x.op := ⟨_, rfl⟩
  obtain ⟨xs, hxs⟩ : ∃ v, v = x.nm := ⟨_, rfl⟩
  have htv : trV x eo ek tu tk = .agg #[.int .i64 xo, .string xs, .slice eo m ek, .slice tu m2 tk] := by rw [hm, hm2, hxo, hxs]
  rw [htv] at CP ⊢
  obtain ⟨cl, hcl⟩ : ∃ v, v = clV c := ⟨_, rfl⟩
  rw [← hcl] at CP ⊢
  have GA := Lib.hid (PtA.made (ec := #[.int .i64 xo, .string xs, .slice eo m ek, .slice tu m2 tk]) hB hbu)
  clear hb he hd hcn hB hW hke hkt hxe hxt hbu hT hW0 htv hm hm2 hxo hxs hcl
  go_enter Tryd.func44, Tryd.ntmps44
  go_upto_region 1 with fail
  obtain ⟨z, hz⟩ : ∃ z, z = w.heap.size := ⟨_, rfl⟩
  obtain ⟨W, hW⟩ : ∃ X, w.alloc (.cells #[.int .i64 xo, .string xs, .slice eo m ek, .slice tu m2 tk] 25) = X := ⟨_, rfl⟩
  have g1 := GA.out W hW
  rw [hW, ← hz]
  rw [← hz] at g1
  have HA := Lib.hid g1
  obtain ⟨c0, c1, c2, c3⟩ := quad g1.ez
  clear hW g1 GA hz
  go_wp2_with (go_at_call 83; (with_reducible refine (CP.out _ HA.out.bel HA.out.bu).mono ?_); rintro e w3 ⟨rfl, hbu, hbl, hot⟩; have HA3 := Lib.hid (HA.out.put hbu hbl hot); clear hbu hbl hot)
  go_end0
  exact ⟨rfl, HA3.out.bu, HA3.out.bel, HA3.out.ot⟩
end Go.Proofs.YtdkjjpfidkaagaaDoor
