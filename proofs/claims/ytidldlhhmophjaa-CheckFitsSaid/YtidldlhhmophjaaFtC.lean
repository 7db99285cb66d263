/- Layer 21: check.Fits, check.Fault of any term. Conditions: those written at each theorem. -/
import Derived.Test.YtidldlhhmophjaaFtB
namespace Go.Proofs.Ytidldlhhmophjaa
open Go.RowKit Go.PlainAid Go.Sort
set_option linter.unusedVariables false
set_option linter.unusedSimpArgs false
/-- Whether a term fits: 0; 12 where it doesn't; 1 where it isn't right. -/
def Tr.fts (x : Tr) : Int := if x.rgt = true then (match x.flt with | none => 0 | some _ => 12) else 1
theorem trgt_parts {x : Tr} (h : x.rgt = true) : x.cnt ≤ 200 ∧ x.dep ≤ 16 ∧ x.blt = true := by
  unfold Tr.rgt at h
  simp only [Bool.and_eq_true, decide_eq_true_eq] at h
  exact ⟨h.1.1, h.1.2, h.2⟩
set_option maxRecDepth 100000 in
set_option maxHeartbeats 4000000 in
theorem fitsOf_any {S : Nat → Prop} (x : Tr) (eo : Option Addr) (ek : Nat) (tb : Option Addr) (tk : Nat) (w : World) (hS : ∀ b, S b → b < w.heap.size) (hx : TrOk S w x eo ek tb tk) (hf : x.fit) (hn : x.cnt < 1000) :
    Calls Try.prog 19 #[trV x eo ek tb tk] w fun e w' => e = .returned (.int .i64 x.fts) ∧ Below w.heap.size w w' := by
  have CR : Hid (∀ W, Below w.heap.size w W → Calls Try.prog 33 #[trV x eo ek tb tk] W fun e w' => e = .returned (.bool x.rgt) ∧ Below W.heap.size W w') := Lib.hid fun W hW => right_any x eo ek tb tk W (fun b hb => by have := hS b hb; have := hW.size; omega) (hx.next hS hW) hf hn
  have CF : Hid (x.rgt = true → ∀ W, Below w.heap.size w W → Calls Try.prog 51 #[trV x eo ek tb tk, .slice none 0 0] W (FtP w.heap.size none 0 0 [] x.flt W)) := Lib.hid fun hr W hW => fault_any (S := S) (B := w.heap.size) hS x eo ek tb tk W none 0 0 [] hW.size (trgt_parts hr).2.2 (hx.next hS hW) hn (World.ownsRow_nil _ _ _ 1) (by have := (trgt_parts hr).2.1; omega)
  have HFT : Hid (x.fts = if x.rgt = true then (match x.flt with | none => 0 | some _ => 12) else 1) := Lib.hid rfl
  obtain ⟨rg, hrg⟩ : ∃ v, v = x.rgt := ⟨_, rfl⟩
  obtain ⟨fl, hfl⟩ : ∃ v, v = x.flt := ⟨_, rfl⟩
  obtain ⟨ft, hft⟩ : ∃ v, v = x.fts := ⟨_, rfl⟩
  rw [← hrg] at CR CF HFT
  rw [← hfl] at CF HFT
  rw [← hft] at HFT ⊢
  obtain ⟨m, hm⟩ : ∃ m, m = x.exprs.length := ⟨_, rfl⟩
  obtain ⟨m2, hm2⟩ : ∃ m, m = x.terms.length := ⟨_, rfl⟩
  obtain ⟨xo, hxo⟩ : ∃ v, v = x.op := ⟨_, rfl⟩
  obtain ⟨xs, hxs⟩ : ∃ v, v = x.nm := ⟨_, rfl⟩
  rw [show trV x eo ek tb tk = .agg #[.int .i64 xo, .string xs, .slice eo m ek, .slice tb m2 tk] from by rw [hm, hm2, hxo, hxs]] at CR CF ⊢
  have GA := Lib.hid (term_box (.int .i64 xo) (.string xs) (.slice eo m ek) (.slice tb m2 tk) w)
  clear hx hf hn hS hrg hfl hft hm hm2 hxo hxs
  go_enter Try.func19, Try.ntmps19
  go_upto_region 1 with fail
  obtain ⟨z, hz⟩ : ∃ z, z = w.heap.size := ⟨_, rfl⟩
  obtain ⟨W, hW⟩ : ∃ X, w.alloc (.cells #[.int .i64 xo, .string xs, .slice eo m ek, .slice tb m2 tk] 42) = X := ⟨_, rfl⟩
  obtain ⟨g1, b1, _⟩ := GA.out W hW
  rw [hW, ← hz]
  rw [← hz] at b1
  have HG := Lib.hid g1
  have HB1 := Lib.hid b1
  obtain ⟨c0, c1, c2, c3⟩ := quad b1
  clear hW g1 b1 GA hz
  cases rg with
  | false =>
    have HF1 : Hid (ft = 1) := Lib.hid (by rw [HFT.out]; rfl)
    go_wp2_with (go_at_call 33; (with_reducible refine (CR.out _ HG.out).mono ?_); rintro e w2 ⟨rfl, hb⟩; have HB2 := Lib.hid hb; clear hb c0 c1 c2 c3)
    go_ret
    exact ⟨by rw [HF1.out]; rfl, below_mono HG.out HB2.out (Nat.le_refl _)⟩
  | true =>
    have CF2 := Lib.hid (CF.out rfl)
    clear CF
    cases fl with
    | none =>
      have HF1 : Hid (ft = 0) := Lib.hid (by rw [HFT.out]; rfl)
      have CF3 : Hid (∀ W, Below w.heap.size w W → Calls Try.prog 51 #[.agg #[.int .i64 xo, .string xs, .slice eo m ek, .slice tb m2 tk], .slice none 0 0] W fun e w' => e = .returned (.tuple #[.slice none 0 0, .bool false]) ∧ Below W.heap.size W w') := Lib.hid fun W hW => (CF2.out W hW).mono fun e w' ⟨h, hg⟩ => by
        rcases h with ⟨q, _, _, _, hq, _⟩ | ⟨_, he, _⟩
        · cases hq
        · exact ⟨he, hg.os, hg.tape, hg.output, hg.size, fun k hk => hg.block k hk (by intro e; cases e)⟩
      go_upto_region 3 with (go_at_call 33; (with_reducible refine (CR.out _ HG.out).mono ?_); rintro e w2 ⟨rfl, hb⟩; have HB2 := Lib.hid hb; clear hb c0 c1 c2 c3)
      obtain ⟨c0, c1, c2, c3⟩ := quad ((HB2.out.block z (lt_of_heap HB1.out)).trans HB1.out)
      go_wp2_with (go_at_call 51; (with_reducible refine (CF3.out _ (below_mono HG.out HB2.out (Nat.le_refl _))).mono ?_); rintro e w3 ⟨rfl, hb⟩; have HB3 := Lib.hid hb; clear hb c0 c1 c2 c3)
      go_ret
      exact ⟨by rw [HF1.out]; rfl, below_mono (below_mono HG.out HB2.out (Nat.le_refl _)) HB3.out (Nat.le_refl _)⟩
    | some p =>
      have HF1 : Hid (ft = 12) := Lib.hid (by rw [HFT.out]; rfl)
      have CF3 : Hid (∀ W, Below w.heap.size w W → Calls Try.prog 51 #[.agg #[.int .i64 xo, .string xs, .slice eo m ek, .slice tb m2 tk], .slice none 0 0] W fun e w' => (∃ qa qn qc, e = .returned (.tuple #[.slice qa qn qc, .bool true])) ∧ Below W.heap.size W w') := Lib.hid fun W hW => (CF2.out W hW).mono fun e w' ⟨h, hg⟩ => by
        rcases h with ⟨q, qa, qn, qc, hq, he, _⟩ | ⟨hq, _⟩
        · exact ⟨⟨qa, qn, qc, he⟩, hg.os, hg.tape, hg.output, hg.size, fun k hk => hg.block k hk (by intro e; cases e)⟩
        · cases hq
      go_upto_region 3 with (go_at_call 33; (with_reducible refine (CR.out _ HG.out).mono ?_); rintro e w2 ⟨rfl, hb⟩; have HB2 := Lib.hid hb; clear hb c0 c1 c2 c3)
      obtain ⟨c0, c1, c2, c3⟩ := quad ((HB2.out.block z (lt_of_heap HB1.out)).trans HB1.out)
      go_wp2_with (go_at_call 51; (with_reducible refine (CF3.out _ (below_mono HG.out HB2.out (Nat.le_refl _))).mono ?_); rintro e w3 ⟨⟨qa, qn, qc, rfl⟩, hb⟩; have HB3 := Lib.hid hb; clear hb c0 c1 c2 c3)
      go_ret
      exact ⟨by rw [HF1.out]; rfl, below_mono (below_mono HG.out HB2.out (Nat.le_refl _)) HB3.out (Nat.le_refl _)⟩
end Go.Proofs.Ytidldlhhmophjaa
