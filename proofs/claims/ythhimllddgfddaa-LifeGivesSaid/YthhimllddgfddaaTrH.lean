/- Trees: the program's Right; whether an expression is the constant 1. Conditions: those written at each theorem. -/
import Derived.Test.YthhimllddgfddaaTrG
namespace Go.Proofs.Ythhimllddgfddaa
open Go.RowKit Go.PlainAid
set_option linter.unusedVariables false
set_option linter.unusedSimpArgs false
/-- A term stands in memory, with its values. -/
structure TrOk (S : Nat → Prop) (w : World) (t : Tr) (eo : Option Addr) (ek : Nat) (tb : Option Addr) (tk : Nat) : Prop where
  ec : t.exprs.length ≤ ek
  tc : t.terms.length ≤ tk
  ex : ExL S w t.exprs eo
  te : TrL S w t.terms tb
theorem TrOk.stay {S T : Nat → Prop} {w w' : World} {t : Tr} {eo : Option Addr} {ek : Nat} {tb : Option Addr} {tk : Nat} (h : TrOk S w t eo ek tb tk) (hT : ∀ b, S b → T b) (hS : ∀ b, S b → w'.heap[b]? = w.heap[b]?) : TrOk T w' t eo ek tb tk :=
  ⟨h.ec, h.tc, h.ex.stay hT hS, h.te.stay hT hS⟩
theorem TrOk.next {S : Nat → Prop} {w w' : World} {t : Tr} {eo : Option Addr} {ek : Nat} {tb : Option Addr} {tk : Nat} (h : TrOk S w t eo ek tb tk) (hS : ∀ b, S b → b < w.heap.size) (k : Below w.heap.size w w') : TrOk S w' t eo ek tb tk :=
  h.stay (fun _ h => h) fun b hb => k.block b (hS b hb)
/-- Is a term right? -/
def Tr.rgt (t : Tr) : Bool := (decide (t.cnt ≤ 200) && decide (t.dep ≤ 16)) && t.blt
set_option maxRecDepth 100000 in
set_option maxHeartbeats 4000000 in
theorem right_any {S : Nat → Prop} (x : Tr) (eo : Option Addr) (ek : Nat) (tb : Option Addr) (tk : Nat) (w : World) (hS : ∀ b, S b → b < w.heap.size) (hx : TrOk S w x eo ek tb tk) (hf : x.fit) (hn : x.cnt < 1000) :
    Calls Try.prog 14 #[trV x eo ek tb tk] w fun e w' => e = .returned (.bool x.rgt) ∧ Below w.heap.size w w' := by
  have hde := x.dep_le
  obtain ⟨z, hz⟩ : ∃ z, z = w.heap.size := ⟨_, rfl⟩
  have CS : Hid (∀ W, Below w.heap.size w W → Calls Try.prog 8 #[trV x eo ek tb tk] W fun e w' => e = .returned (.tuple #[.int .i64 x.cnt, .int .i64 x.dep]) ∧ Below W.heap.size W w') := Lib.hid fun W hW => by
    have h := hx.next hS hW
    exact size_any x eo ek tb tk W (fun b hb => by have := hS b hb; have := hW.size; omega) h.ec h.tc h.ex h.te hn
  have CB : Hid (∀ W, Below w.heap.size w W → Calls Try.prog 27 #[trV x eo ek tb tk] W fun e w' => e = .returned (.bool x.blt) ∧ Below W.heap.size W w') := Lib.hid fun W hW => by
    have h := hx.next hS hW
    exact built_any hS x eo ek tb tk W hW.size hf hn h.ec h.tc h.ex h.te
  have CF := Lib.hid (fits_any x.cnt x.dep (by omega) (by omega))
  obtain ⟨cn, hcn⟩ : ∃ v, v = x.cnt := ⟨_, rfl⟩
  obtain ⟨dn, hdn⟩ : ∃ v, v = x.dep := ⟨_, rfl⟩
  obtain ⟨g, hg⟩ : ∃ v, v = (decide (x.cnt ≤ 200) && decide (x.dep ≤ 16)) := ⟨_, rfl⟩
  have HR : Hid (x.rgt = (g && x.blt)) := Lib.hid (by rw [hg]; rfl)
  rw [← hg] at CF
  rw [← hcn, ← hdn] at CF CS
  obtain ⟨bt, hbt⟩ : ∃ v, v = x.blt := ⟨_, rfl⟩
  rw [← hbt] at CB HR
  rw [HR.out]
  obtain ⟨xo, hxo⟩ : ∃ v, v = x.op := ⟨_, rfl⟩
  obtain ⟨xs, hxs⟩ : ∃ v, v = x.nm := ⟨_, rfl⟩
  obtain ⟨m, hm⟩ : ∃ m, m = x.exprs.length := ⟨_, rfl⟩
  obtain ⟨m2, hm2⟩ : ∃ m, m = x.terms.length := ⟨_, rfl⟩
  have hxe : trV x eo ek tb tk = .agg #[.int .i64 xo, .string xs, .slice eo m ek, .slice tb m2 tk] := by rw [hm, hm2, hxo, hxs]
  rw [hxe] at CS CB ⊢
  have GA : Hid (∀ W, w.alloc (.cells #[.int .i64 xo, .string xs, .slice eo m ek, .slice tb m2 tk] 32) = W → W.heap[z]? = some (.cells #[.int .i64 xo, .string xs, .slice eo m ek, .slice tb m2 tk] 32 (0, 0)) ∧ Below w.heap.size w W ∧ z < W.heap.size) := Lib.hid (by
    rintro W rfl
    exact ⟨by rw [hz]; exact heap_alloc_new w _, (Below.refl w.heap.size w).alloc (Nat.le_refl _) _, by rw [hz]; simp⟩)
  clear hx hf hn hde hcn hdn hg HR hbt hxo hxs hm hm2 hxe
  cases g with
  | false =>
    go_enter Try.func14, Try.ntmps14
    go_upto_region 1 with fail
    obtain ⟨W, hW⟩ : ∃ x, w.alloc (.cells #[.int .i64 xo, .string xs, .slice eo m ek, .slice tb m2 tk] 32) = x := ⟨_, rfl⟩
    rw [hW, ← hz]
    obtain ⟨b1, g1, l1⟩ := GA.out W hW
    have HG := Lib.hid g1
    obtain ⟨c0, c1, c2, c3⟩ := quad b1
    clear hW b1 g1 l1 GA hz
    go_wp2_with (first | (go_at_call 8; (with_reducible refine (CS.out _ HG.out).mono ?_); rintro e w2 ⟨rfl, hb⟩; have HB2 := Lib.hid hb; clear hb c0 c1 c2 c3) | (go_at_call 26; (with_reducible refine (CF.out _).mono ?_); rintro e w3 ⟨rfl, rfl⟩))
    go_ret
    exact ⟨rfl, below_mono HG.out HB2.out (Nat.le_refl _)⟩
  | true =>
    go_enter Try.func14, Try.ntmps14
    go_upto_region 1 with fail
    obtain ⟨W, hW⟩ : ∃ x, w.alloc (.cells #[.int .i64 xo, .string xs, .slice eo m ek, .slice tb m2 tk] 32) = x := ⟨_, rfl⟩
    rw [hW, ← hz]
    obtain ⟨b1, g1, l1⟩ := GA.out W hW
    have HG := Lib.hid g1
    have HBX := Lib.hid b1
    have HL := Lib.hid l1
    obtain ⟨c0, c1, c2, c3⟩ := quad b1
    clear hW b1 g1 l1 GA hz
    go_wp2_with (first | (go_at_call 8; (with_reducible refine (CS.out _ HG.out).mono ?_); rintro e w2 ⟨rfl, hb⟩; have HB2 := Lib.hid hb; obtain ⟨d0, d1, d2, d3⟩ := quad ((hb.block z HL.out).trans HBX.out); clear hb c0 c1 c2 c3) | (go_at_call 26; (with_reducible refine (CF.out _).mono ?_); rintro e w3 ⟨rfl, rfl⟩) | (go_at_call 27; (with_reducible refine (CB.out _ (below_mono HG.out HB2.out (Nat.le_refl _))).mono ?_); rintro e w4 ⟨rfl, hb⟩; have HB4 := Lib.hid hb; clear hb))
    go_ret
    exact ⟨by simp, below_mono (below_mono HG.out HB2.out (Nat.le_refl _)) HB4.out (Nat.le_refl _)⟩
def Xp.isO (x : Xp) : Bool := decide (x.op = 1) && decide (x.n = 1)
end Go.Proofs.Ythhimllddgfddaa
