/- Keys of a cache. Conditions: those written at each theorem. -/
import Derived.Test.YtnganclkjoiggaaCaCi
import Derived.LaidEqlPtr
import Derived.Lib.Builder
import Derived.Laws.AppendOwn
import Derived.Laws.OwnMore
namespace Go.Proofs.Ytnganclkjoiggaa
open Go.RowKit Go.Maps Go.WideShapes
set_option linter.unusedVariables false
set_option linter.unusedSimpArgs false

namespace ki
theorem keyInfo : (Try.prog.info? 3).map (fun i => (i.zero, i.size, i.bytes)) = some (some (.int .i64 0), 1, 8) := by kernel_rfl
theorem neq_other (w : World) {a b : Nat} (hne : a ≠ b) (ha : Of 59 4 a w) (hb : Of 59 4 b w) : (binOp .neq 57 (.pointer (some ⟨a, 0, none⟩)) (.pointer (some ⟨b, 0, none⟩))).run Try.prog w = .ok (.bool true) w := by
  obtain ⟨ca, _, ha⟩ := ha
  obtain ⟨cb, _, hb⟩ := hb
  have hs : (Try.prog.info? 59).map (·.size) = some 4 := by kernel_rfl
  obtain ⟨j, hj, hsz⟩ := Option.map_eq_some_iff.1 hs
  have h : ∀ d : Nat, (Op.equalIn (d + 1) 57 (.pointer (some ⟨a, 0, none⟩)) (.pointer (some ⟨b, 0, none⟩))).run Try.prog w = .ok false w := fun d => by
    simp [Op.equalIn, run_underlying Try.underlying57, sizeOf, typeInfo, hj, hsz, run_sameAddr_other w (a := ⟨a, 0, none⟩) (b := ⟨b, 0, none⟩) (fun e => hne (by injection e)) ha hb]
  simp only [binOp]
  simp [Op.equal, Op.maxDepth, h 9999]
theorem neq_same (w : World) (a : Nat) : (binOp .neq 57 (.pointer (some ⟨a, 0, none⟩)) (.pointer (some ⟨a, 0, none⟩))).run Try.prog w = .ok (.bool false) w := by
  have hs : (Try.prog.info? 59).map (·.size) = some 4 := by kernel_rfl
  obtain ⟨j, hj, hsz⟩ := Option.map_eq_some_iff.1 hs
  exact Lib.run_neq_ptr_same w ⟨a, 0, none⟩ Try.underlying57 hj
/-- append(l, k). -/
theorem wpList_appK {w : World} {ops : Array Oper} {rest : List Oper} {o : Oper} {a : Act} {Q : Exit → Act → World → Prop} (hgd : o.guard = none) (s x : Operand)
    (ho : o.op = .call { callee := .builtin .append, args := #[s, x], argTypes := #[37, 37] })
    (B n : Nat) (v : Value) (l : List Value) (p : Value) (hp : p.oneCell' = true) (hs : a.eval s = v) (hown : w.ownsRow B 3 1 v n l) (g : Nat) (hx : a.eval x = .slice (some ⟨g, 0, none⟩) 1 1)
    (hc : w.cell? ⟨g, 0, none⟩ = some p) (hl : n ≤ 1000000) (hB : B ≤ w.heap.size)
    (h : ∀ v' w', w'.ownsRow B 3 1 v' (n + 1) (l ++ [p]) → w.grownBy w' v.ownBlock → wpList Try.prog ops Q rest (a.put o.dst v') w') :
    wpList Try.prog ops Q (o :: rest) a w := by
  obtain ⟨i0, hi, hz0, hz1, hz2⟩ := info_parts keyInfo
  refine wpList_append_own w hgd s x 37 ho B 3 i0 (.int .i64 0) 1 8 Try.underlying37 hi hz0 hz1 hz2 rfl (by decide) v n l hs hown ⟨g, 0, none⟩ 1 1 [p] hx rfl ?_ ?_ ?_ ?_ hB ?_
  · intro j u hj
    match j, hj with
    | 0, hj => simp at hj; subst hj; exact hc
  · intro u hu
    simp at hu
    subst hu; exact hp
  · unfold maxLen; omega
  · omega
  · intro v' w' h1 h2 _
    exact h v' w' h1 h2
theorem key_one {v : Value} {l : Lit} (h : keyOf Try.prog 3 v = some l) : v.oneCell' = true := by
  cases v <;> first | rfl | (exfalso; simp [keyOf, Try.underlying3, mapKey] at h)
theorem key_inv {v : Value} {l : Lit} (h : keyOf Try.prog 3 v = some l) : ∃ k, v = (.int .i64 k) := by
  cases v <;> simp [keyOf, Try.underlying3, mapKey] at h
  all_goals first | exact ⟨_, rfl⟩ | (obtain ⟨⟨rfl, _⟩, _⟩ := h; exact ⟨_, rfl⟩) | (obtain ⟨rfl, _⟩ := h; exact ⟨_, rfl⟩)
def nx (T : List En) (r : Nat) : Nat := match T with
  | [] => r
  | e :: _ => e.b
theorem nx_head {T : List En} {r q : Nat} {B : List Nat} (h : T.map (·.b) ++ [r] = q :: B) : nx T r = q := by
  cases T with
  | nil => injection h
  | cons e T => injection h
theorem row_form {B n : Nat} {e : TypeId} {z : Nat} {v : Value} {xs : List Value} {w : World} (h : w.ownsRow B e z v n xs) : ∃ a c, v = .slice a n c := by
  rcases h.2 with ⟨rfl, h0⟩ | ⟨g, cap, cur, rfl, _⟩
  · subst h0; exact ⟨none, 0, rfl⟩
  · exact ⟨_, _, rfl⟩
def slen : Value → Nat
  | .slice _ n _ => n
  | _ => 0
set_option maxRecDepth 100000 in
set_option maxHeartbeats 4000000 in
theorem keys_any {B c m r N : Nat} {mo fo mi : Int} {es : List En} {w : World} (h : At B c m r N mo fo mi es w) (hl : es.length ≤ 100000) :
    Calls Try.prog 13 #[.pointer (some ⟨c, 0, none⟩)] w fun x w' => ∃ va vc, x = .returned (.slice va es.length vc) ∧ w'.ownsRow w.heap.size 3 1 (.slice va es.length vc) es.length (es.map (·.k)) ∧ Below w.heap.size w w' := by
  have c5 := cell_blk h.hd 5
  have r3 : w.cell? ⟨r, 3, none⟩ = some (.pointer (some ⟨nx es r, 0, none⟩)) := by
    have := h.rg.lk
    cases es with
    | nil => exact this.1.1
    | cons e t => exact this.1.1
  simp only [List.getElem?_toArray] at c5
  have HH := Lib.hid h
  have HC5 : Hid (∀ W, Below w.heap.size w W → W.cell? ⟨c, 5, none⟩ = some (.pointer (some ⟨r, 0, none⟩))) := Lib.hid fun W hW => by
    have := cell_blk (h.under hW).hd 5
    simpa using this
  clear h
  go_enter Try.func13, Try.ntmps13
  go_wp2_with fail
  go_loopw [3, 4] (fun v p wr => ∃ (A T : List En) (n z : Nat), Hid (es = A ++ T) ∧ Hid (n = A.length) ∧ Hid (z = nx T r) ∧ p = .pointer (some ⟨z, 0, none⟩) ∧ Hid (wr.ownsRow w.heap.size 3 1 v n (A.map (·.k))) ∧ Hid (Below w.heap.size w wr)) (fun v _ _ => es.length - slen v)
  case atStart => exact ⟨[], es, 0, _, Lib.hid rfl, Lib.hid rfl, Lib.hid rfl, rfl, Lib.hid (World.ownsRow_nil _ _ _ _), Lib.hid (Below.refl _ _)⟩
  case round =>
    obtain ⟨A, T, n, z, HA, HN, HZ, rfl, HR, HB⟩ := hrel
    obtain ⟨va, vc, hv⟩ := row_form HR.out
    subst hv
    have c5 := HC5.out wr HB.out
    have HU := Lib.hid (HH.out.under HB.out)
    cases T with
    | nil =>
      obtain rfl : z = r := HZ.out
      have hne := neq_same wr z
      go_wp2_with fail
      go_ret
      have hes : es = A := by have := HA.out; simpa using this
      have hn := HN.out
      rw [hes, ← hn]
      exact ⟨va, vc, rfl, HR.out, HB.out⟩
    | cons e T =>
      obtain rfl : z = e.b := HZ.out
      have hu := HU.out
      rw [HA.out] at hu
      obtain ⟨A', B', p, q, hp, hq, h2, h3, _⟩ := hu.rg.beside
      have hem : e ∈ A ++ e :: T := List.mem_append_right _ (List.mem_cons_self ..)
      have hkv := (hu.rg.kv e hem).1
      have hone := key_one (hu.ke e hem)
      have oe : Of 59 4 e.b wr := hu.rg.of e.b (List.mem_cons_of_mem _ (List.mem_map_of_mem hem))
      have hrb : e.b ≠ r := by
        have := hu.rg.nd
        rw [List.nodup_cons] at this
        intro e2
        exact this.1 (by rw [← e2]; exact List.mem_map_of_mem hem)
      have hne := neq_other wr hrb oe (hu.rg.of r (List.mem_cons_self ..))
      have hqn := nx_head hq
      have HQ3 : Hid (∀ W, Below w.heap.size w W → W.cell? ⟨e.b, 3, none⟩ = some (.pointer (some ⟨q, 0, none⟩))) := Lib.hid fun W hW => by
        have hw := HH.out.under hW
        rw [HA.out] at hw
        obtain ⟨A2, B2, p2, q2, _, hq2, _, h32, _⟩ := hw.rg.beside
        have : q2 = q := by rw [← nx_head hq2, hqn]
        rw [this] at h32
        exact h32
      have HQ := Lib.hid hqn
      obtain ⟨eb, heb⟩ : ∃ b, e.b = b := ⟨_, rfl⟩
      obtain ⟨k, hK⟩ := key_inv (hu.ke e hem)
      rw [hK] at hkv hone
      rw [heb] at hkv hne HQ3 ⊢
      have HK := Lib.hid hK
      have hnew : (wr.alloc (.cells #[(.int .i64 k)] 3)).heap[wr.heap.size]? = some (.cells #[(.int .i64 k)] 3 (0, 0)) := heap_alloc_new wr _
      have PN : Hid ((wr.alloc (.cells #[(.int .i64 k)] 3)).cell? ⟨wr.heap.size, 0, none⟩ = some (.int .i64 k)) := Lib.hid (cell_blk hnew 0)
      have RA := Lib.hid (HR.out.alloc (.cells #[(.int .i64 k)] 3))
      have BA := Lib.hid (HB.out.alloc HB.out.size (.cells #[(.int .i64 k)] 3))
      have hn5 : n ≤ 1000000 := by
        have h1 := HN.out
        have h2 := congrArg List.length HA.out
        simp at h2
        omega
      have HONE := Lib.hid hone
      clear hnew hem hu hp hq h2 h3 oe hrb hqn heb hK hone
      go_wp2_with (at_builtin; refine wpList_appK rfl _ _ rfl w.heap.size n _ _ (.int .i64 k) HONE.out rfl RA.out wr.heap.size rfl PN.out hn5 BA.out.size ?_; intro v2 w9 hrow hgr; have hB9 := Lib.hid (BA.out.grown hgr BA.out.size (fun g hg => (RA.out.lt g hg).1)); have e3 := HQ3.out w9 hB9.out; obtain ⟨va2, vc2, hv2⟩ := row_form hrow; subst hv2)
      go_roundw
      case rel => exact ⟨A ++ [e], T, n + 1, q, Lib.hid (by rw [HA.out]; simp), Lib.hid (by rw [HN.out]; simp), Lib.hid HQ.out.symm, rfl, Lib.hid (by rw [List.map_append, List.map_cons, List.map_nil, HK.out]; exact hrow), hB9⟩
      case measure =>
        have h1 := HN.out
        have h2 := congrArg List.length HA.out
        simp at h2
        simp [slen]; omega
end ki
end Go.Proofs.Ytnganclkjoiggaa
