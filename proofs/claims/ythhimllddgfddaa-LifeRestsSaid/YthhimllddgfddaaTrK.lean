/- Trees: the program's simple, walked. Conditions: those written at each theorem. -/
import Derived.Test.YthhimllddgfddaaTrI
namespace Go.Proofs.Ythhimllddgfddaa
open Go.RowKit Go.PlainAid
set_option linter.unusedVariables false
set_option linter.unusedSimpArgs false
/-- The blocks in which trees of a row stand. -/
def RJ (S : Nat → Prop) (B : Nat) (v : Value) (w : World) : Nat → Prop := fun b => S b ∨ (B ≤ b ∧ b < w.heap.size ∧ v.ownBlock ≠ some b)
theorem rj_push {S : Nat → Prop} {B g' n : Nat} {va : Option Addr} {vc cap : Nat} {w w' : World} (hS : ∀ b, S b → b < B) (hg : w.grownBy w' (Value.slice va n vc).ownBlock) (hgr : (Value.slice va n vc).ownBlock = some g' ∨ g' = w.heap.size) {m : Nat} {T : TypeId} {qs : List Q4} (hrow : Row4 w B T (.slice va n vc) qs) :
    ∀ b, RJ S B (.slice va n vc) w b → RJ S B (.slice (some ⟨g', 0, none⟩) m cap) w' b := by
  intro b hb
  rcases hb with hb | ⟨h1, h2, h3⟩
  · exact .inl hb
  · refine .inr ⟨h1, Nat.lt_of_lt_of_le h2 hg.size, ?_⟩
    intro e
    have e2 : g' = b := by injection e
    rcases hgr with h | h
    · rw [h, e2] at h3; exact h3 rfl
    · omega
theorem rj_keep {S : Nat → Prop} {B n : Nat} {va : Option Addr} {vc : Nat} {w w' : World} (hS : ∀ b, S b → b < B) (hB : B ≤ w.heap.size) (hg : w.grownBy w' (Value.slice va n vc).ownBlock) {T : TypeId} {qs : List Q4} (hrow : Row4 w B T (.slice va n vc) qs) :
    ∀ b, RJ S B (.slice va n vc) w b → w'.heap[b]? = w.heap[b]? := by
  intro b hb
  rcases hb with hb | ⟨h1, h2, h3⟩
  · refine hg.block b (Nat.lt_of_lt_of_le (hS b hb) hB) fun e => ?_
    have := hrow.lt e.symm
    have := hS b hb
    omega
  · exact hg.block b h2 (Ne.symm h3)
theorem rj_more {S : Nat → Prop} {B : Nat} {v : Value} {w w' : World} (k : w.heap.size ≤ w'.heap.size) : ∀ b, RJ S B v w b → RJ S B v w' b := fun b hb => hb.imp id fun ⟨h1, h2, h3⟩ => ⟨h1, Nat.lt_of_lt_of_le h2 k, h3⟩
theorem rj_lt {S : Nat → Prop} {B : Nat} {v : Value} {w : World} (hS : ∀ b, S b → b < B) (hB : B ≤ w.heap.size) : ∀ b, RJ S B v w b → b < w.heap.size := fun b hb => by
  rcases hb with h | ⟨_, h, _⟩
  · exact Nat.lt_of_lt_of_le (hS b h) hB
  · exact h
theorem row_add (g j : Nat) : (⟨g, 0, none⟩ : Addr).add j = ⟨g, j, none⟩ := by unfold Addr.add; split <;> simp_all
theorem addr_zero (a : Addr) : a.add 0 = a := by unfold Addr.add; split <;> simp_all
theorem four_zero {w : World} {g : Nat} {v0 v1 v2 v3 : Value} (h : FourX w ((⟨g, 0, none⟩ : Addr).add (0 * 4)) v0 v1 v2 v3) : w.cell? ⟨g, 0, none⟩ = some v0 ∧ w.cell? ⟨g, 1, none⟩ = some v1 ∧ w.cell? ⟨g, 2, none⟩ = some v2 ∧ w.cell? ⟨g, 3, none⟩ = some v3 := by
  rw [row_add] at h
  exact h
theorem four_one {w : World} {g : Nat} {v0 v1 v2 v3 : Value} (h : FourX w ((⟨g, 0, none⟩ : Addr).add (1 * 4)) v0 v1 v2 v3) : w.cell? ⟨g, 4, none⟩ = some v0 ∧ w.cell? ⟨g, 5, none⟩ = some v1 ∧ w.cell? ⟨g, 6, none⟩ = some v2 ∧ w.cell? ⟨g, 7, none⟩ = some v3 := by
  rw [row_add] at h
  exact h
theorem rj_step {S : Nat → Prop} {B j vc g' cap m : Nat} {va : Option Addr} {wr w3 w4 w5 : World} {o : Obj} {qs : List Q4} {ls : List Tr} {T : TypeId} {sy : Tr} {eo2 : Option Addr} {ek2 : Nat} {tb2 : Option Addr} {tk2 : Nat}
    (hS : ∀ b, S b → b < B) (hB : B ≤ wr.heap.size) (h4 : Below wr.heap.size wr w4) (h3 : wr.heap.size ≤ w3.heap.size) (hrow : Row4 wr B T (.slice va j vc) qs) (hf : Fits (QT (RJ S B (.slice va j vc) wr) wr) ls qs)
    (hok : TrOk (fun b => S b ∨ (w3.heap.size ≤ b ∧ b < w4.heap.size)) w4 sy eo2 ek2 tb2 tk2) (hg : (w4.alloc o).grownBy w5 (Value.slice va j vc).ownBlock) (hor : (Value.slice va j vc).ownBlock = some g' ∨ g' = (w4.alloc o).heap.size) :
    Fits (QT (RJ S B (.slice (some ⟨g', 0, none⟩) m cap) w5) w5) (ls ++ [sy]) (qs ++ [(.int .i64 sy.op, .string sy.nm, .slice eo2 sy.exprs.length ek2, .slice tb2 sy.terms.length tk2)]) := by
  have h4a : Below wr.heap.size wr (w4.alloc o) := h4.alloc h4.size o
  have hrow4 : Row4 (w4.alloc o) B T (.slice va j vc) qs := hrow.stay fun g hg => h4a.block g (hrow.lt hg).1
  have h44 : ∀ b, b < w4.heap.size → (w4.alloc o).heap[b]? = w4.heap[b]? := fun b hb => ((Below.refl _ _).alloc (Nat.le_refl _) o).block b hb
  refine Fits.snoc (hf.imp fun x q hq => (hq.stay (T := RJ S B (.slice va j vc) (w4.alloc o)) (rj_more h4a.size) fun b hb => h4a.block b (rj_lt hS hB b hb)).stay (rj_push hS hg hor hrow4) (rj_keep hS (Nat.le_trans hB h4a.size) hg hrow4)) ?_
  refine ⟨eo2, ek2, tb2, tk2, rfl, hok.ec, hok.tc, ?_⟩
  have hT : ∀ b, (S b ∨ (w3.heap.size ≤ b ∧ b < w4.heap.size)) → RJ S B (.slice (some ⟨g', 0, none⟩) m cap) w5 b := by
    rintro b (h | ⟨h1, h2⟩)
    · exact .inl h
    · refine .inr ⟨by omega, Nat.lt_of_lt_of_le (Nat.lt_of_lt_of_le h2 (by simp)) hg.size, fun e => ?_⟩
      have e2 : g' = b := by injection e
      rcases hor with h | h
      · have := (hrow.lt h).1
        omega
      · rw [World.size_alloc] at h
        omega
  have hst : ∀ b, (S b ∨ (w3.heap.size ≤ b ∧ b < w4.heap.size)) → w5.heap[b]? = w4.heap[b]? := by
    rintro b h
    have hlt : b < w4.heap.size := by rcases h with h | ⟨_, h⟩; exact Nat.lt_of_lt_of_le (hS b h) (Nat.le_trans hB h4.size); exact h
    refine (hg.block b (Nat.lt_of_lt_of_le hlt (by simp)) fun e => ?_).trans (h44 b hlt)
    have h5 := hrow.lt e.symm
    rcases h with h | ⟨h, _⟩
    · have := hS b h; omega
    · omega
  exact ⟨hok.ex.stay hT hst, hok.te.stay hT hst⟩
end Go.Proofs.Ythhimllddgfddaa
