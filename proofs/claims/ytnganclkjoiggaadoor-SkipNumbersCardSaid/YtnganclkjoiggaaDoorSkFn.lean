/- Keys of a skip list. Conditions: those written at each theorem. -/
import Derived.Test.YtnganclkjoiggaaDoorSkCn
import Derived.Lib.Builder
import Derived.Laws.AppendOwn
import Derived.Laws.OwnMore
namespace Go.Proofs.YtnganclkjoiggaaDoor
open Go.RowKit Go.Maps Go.WideShapes
set_option linter.unusedVariables false
set_option linter.unusedSimpArgs false
namespace sn
theorem keyInfo : (Tryd.prog.info? 2).map (fun i => (i.zero, i.size, i.bytes)) = some (some (.int .i64 0), 1, 8) := by kernel_rfl
/-- append(l, k). -/
theorem wpList_appK {w : World} {ops : Array Oper} {rest : List Oper} {o : Oper} {a : Act} {Q : Exit → Act → World → Prop} (hgd : o.guard = none) (s x : Operand)
    (ho : o.op = .call { callee := .builtin .append, args := #[s, x], argTypes := #[41, 41] })
    (B n : Nat) (v : Value) (l : List Value) (p : Value) (hp : p.oneCell' = true) (hs : a.eval s = v) (hown : w.ownsRow B 2 1 v n l) (g : Nat) (hx : a.eval x = .slice (some ⟨g, 0, none⟩) 1 1)
    (hc : w.cell? ⟨g, 0, none⟩ = some p) (hl : n ≤ 1000000) (hB : B ≤ w.heap.size)
    (h : ∀ v' w', w'.ownsRow B 2 1 v' (n + 1) (l ++ [p]) → w.grownBy w' v.ownBlock → wpList Tryd.prog ops Q rest (a.put o.dst v') w') :
    wpList Tryd.prog ops Q (o :: rest) a w := by
  obtain ⟨i0, hi, hz0, hz1, hz2⟩ := info_parts keyInfo
  refine wpList_append_own w hgd s x 41 ho B 2 i0 (.int .i64 0) 1 8 Tryd.underlying41 hi hz0 hz1 hz2 rfl (by decide) v n l hs hown ⟨g, 0, none⟩ 1 1 [p] hx rfl ?_ ?_ ?_ ?_ hB ?_
  · intro j u hj
    match j, hj with
    | 0, hj => simp at hj; subst hj; exact hc
  · intro u hu
    simp at hu
    subst hu; exact hp
  · unfold maxLen; omega
  · omega
  · intro v' w' h1 h2 _
    exact h v' w' h1 h2
theorem row_form {B n : Nat} {e : TypeId} {z : Nat} {v : Value} {xs : List Value} {w : World} (h : w.ownsRow B e z v n xs) : ∃ a c, v = .slice a n c := by
  rcases h.2 with ⟨rfl, h0⟩ | ⟨g, cap, cur, rfl, _⟩
  · subst h0; exact ⟨none, 0, rfl⟩
  · exact ⟨_, _, rfl⟩
def slen : Value → Nat
  | .slice _ n _ => n
  | _ => 0
def kv (n : Nd) : Value := .int .i64 n.k
set_option maxRecDepth 100000 in
set_option maxHeartbeats 4000000 in
theorem keys_any {B m : Nat} {H : Nd} {mx : Int} {ns : List Nd} {w : World} (h : SkAt B m H mx ns w) (hl : ns.length ≤ 100000) :
    Calls Tryd.prog 21 #[.pointer (some ⟨m, 0, none⟩)] w fun x w' => ∃ va vc, x = .returned (.slice va ns.length vc) ∧ w'.ownsRow w.heap.size 2 1 (.slice va ns.length vc) ns.length (ns.map kv) ∧ Below w.heap.size w w' := by
  obtain ⟨_, _, c2, c3⟩ := (h.node (A := []) (T := ns) (p := H) rfl).cells
  have c4 := c3 0 (by have := h.hh.1; omega)
  rw [nx_zero fun x hx => (h.hh.2 x hx).1] at c4
  have h16 := h.hh.1
  rw [h16] at c2
  have c0 := cell_blk h.hd 0
  simp only [List.getElem?_toArray, ptr] at c0
  obtain ⟨q, hq⟩ : ∃ b, b = H.b := ⟨_, rfl⟩
  obtain ⟨nb, hnb⟩ : ∃ b, b = H.nb := ⟨_, rfl⟩
  rw [← hq] at c0 c2
  rw [← hnb] at c2 c4
  obtain ⟨x, hx⟩ := head_ptr ns.head?
  rw [hx] at c4
  have HX := Lib.hid hx
  have HH := Lib.hid h
  clear h h16 hq hnb hx c3
  go_enter Tryd.func21, Tryd.ntmps21
  go_wp2_with fail
  go_loopw [3, 4] (fun v p wr => ∃ (A T : List Nd) (n : Nat) (o : Option Addr), Hid (ns = A ++ T) ∧ Hid (n = A.length) ∧ Hid (hdp T.head? = .pointer o) ∧ p = .pointer o ∧ Hid (wr.ownsRow w.heap.size 2 1 v n (A.map kv)) ∧ Hid (Below w.heap.size w wr)) (fun v _ _ => ns.length - slen v)
  case atStart => exact ⟨[], ns, 0, x, Lib.hid rfl, Lib.hid rfl, HX, rfl, Lib.hid (World.ownsRow_nil _ _ _ _), Lib.hid (Below.refl _ _)⟩
  case round =>
    clear HX c0 c2 c4
    obtain ⟨A, T, n, o, HA, HN, HO, rfl, HR, HB⟩ := hrel
    obtain ⟨va, vc, hv⟩ := row_form HR.out
    subst hv
    cases T with
    | nil =>
      have ho : o = none := by have := HO.out; simp only [List.head?_nil, hdp] at this; injection this with this; exact this.symm
      subst ho
      go_wp2_with fail
      go_ret
      have hes : ns = A := by have := HA.out; simpa using this
      have hn := HN.out
      rw [hes, ← hn]
      exact ⟨va, vc, rfl, HR.out, HB.out⟩
    | cons E T =>
      obtain ⟨b, hb⟩ : ∃ b, b = E.b := ⟨_, rfl⟩
      have ho : o = some ⟨b, 0, none⟩ := by have := HO.out; simp only [List.head?_cons, hdp, ptr] at this; injection this with this; rw [hb]; exact this.symm
      subst ho
      obtain ⟨k, hk⟩ : ∃ k, k = E.k := ⟨_, rfl⟩
      obtain ⟨nb, hnb⟩ : ∃ b, b = E.nb := ⟨_, rfl⟩
      obtain ⟨eh, heh⟩ : ∃ b, b = E.h := ⟨_, rfl⟩
      obtain ⟨x2, hx2⟩ := head_ptr T.head?
      have HX2 := Lib.hid hx2
      have CW : Hid (∀ W, Below w.heap.size w W → W.cell? ⟨b, 0, none⟩ = some (.int .i64 k) ∧ W.cell? ⟨b, 2, none⟩ = some (.slice (some ⟨nb, 0, none⟩) eh eh) ∧ W.cell? ⟨nb, 0, none⟩ = some (.pointer x2)) := Lib.hid fun W hW => by
        have h2 := HH.out.under hW
        obtain ⟨d0, _, d2, d3⟩ := (h2.node (A := H :: A) (T := T) (p := E) (by rw [HA.out]; rfl)).cells
        have he := h2.hh.2 E (by rw [HA.out]; simp)
        have d4 := d3 0 he.1
        rw [nx_zero fun x hx => (h2.hh.2 x (by rw [HA.out]; simp [hx])).1, hx2] at d4
        rw [hb, hk, hnb, heh]
        exact ⟨d0, d2, d4⟩
      have ep : (0 : Int) < (eh : Int) := by have := (HH.out.hh.2 E (by rw [HA.out]; simp)).1; omega
      obtain ⟨k0, _, _⟩ := CW.out wr HB.out
      have HK := Lib.hid hk
      have hnew : (wr.alloc (.cells #[.int .i64 k] 2)).heap[wr.heap.size]? = some (.cells #[.int .i64 k] 2 (0, 0)) := heap_alloc_new wr _
      have PN : Hid ((wr.alloc (.cells #[.int .i64 k] 2)).cell? ⟨wr.heap.size, 0, none⟩ = some (.int .i64 k)) := Lib.hid (cell_blk hnew 0)
      have RA := Lib.hid (HR.out.alloc (.cells #[.int .i64 k] 2))
      have BA := Lib.hid (HB.out.alloc HB.out.size (.cells #[.int .i64 k] 2))
      have hn5 : n ≤ 1000000 := by
        have h1 := HN.out
        have h2 := congrArg List.length HA.out
        simp at h2
        omega
      clear hnew hb hk hnb heh hx2 HO
      go_wp2_with (at_builtin; refine wpList_appK rfl _ _ rfl w.heap.size n _ _ (.int .i64 k) rfl rfl RA.out wr.heap.size rfl PN.out hn5 BA.out.size ?_; intro v2 w9 hrow hgr; have hB9 := Lib.hid (BA.out.grown hgr BA.out.size (fun g hg => (RA.out.lt g hg).1)); obtain ⟨_, e2, e3⟩ := CW.out w9 hB9.out; obtain ⟨va2, vc2, hv2⟩ := row_form hrow; subst hv2)
      go_roundw
      case rel => exact ⟨A ++ [E], T, n + 1, x2, Lib.hid (by rw [HA.out]; simp), Lib.hid (by rw [HN.out]; simp), HX2, rfl, Lib.hid (by rw [List.map_append, List.map_cons, List.map_nil, kv, ← HK.out]; exact hrow), hB9⟩
      case measure =>
        have h1 := HN.out
        have h2 := congrArg List.length HA.out
        simp at h2
        simp [slen]; omega
end sn
end Go.Proofs.YtnganclkjoiggaaDoor
