/- The words of a text that is laid of words with blanks between. Plain. Conditions: those written at each theorem. -/
import Derived.Test.YtkfkoopfoiekoaaDoorLxK
namespace Go.Proofs.YtkfkoopfoiekoaaDoor
open Go.RowKit Go.PlainAid
set_option linter.unusedVariables false
set_option linter.unusedSimpArgs false
/-- What stands behind each word, but its first blank. -/
def sq (rm : Bool) : List UInt8 := if rm then [35, 32, 40, 10] else []
def lay (rm : Bool) (ws : List Wd) : List UInt8 := ws.flatMap fun x => x.t.data.toList ++ 32 :: sq rm
def OkW (x : Wd) : Prop := ∀ r, fs (x.t.data.toList ++ 32 :: r) = some (x.k, x.t.size, x.n)
theorem sq_bl (rm : Bool) {r : List UInt8} (h : bl false r = 0) : bl false (32 :: sq rm ++ r) = (sq rm).length + 1 := by
  cases rm with
  | false =>
    show bl false (32 :: r) = 1
    unfold bl
    rw [if_pos (by decide), show br false (((32 : UInt8).toNat : Nat) : Int) = false from by decide, h]
  | true =>
    show bl false (32 :: 35 :: 32 :: 40 :: 10 :: r) = 5
    unfold bl
    rw [if_pos (by decide), show br false (((32 : UInt8).toNat : Nat) : Int) = false from by decide]
    unfold bl
    rw [if_pos (by decide), show br false (((35 : UInt8).toNat : Nat) : Int) = true from by decide]
    unfold bl
    rw [if_pos (by decide), show br true (((32 : UInt8).toNat : Nat) : Int) = true from by decide]
    unfold bl
    rw [if_pos (by decide), show br true (((40 : UInt8).toNat : Nat) : Int) = true from by decide]
    unfold bl
    rw [if_pos (by decide), show br true (((10 : UInt8).toNat : Nat) : Int) = false from by decide, h]
theorem bl_word {x : List UInt8} {r : List UInt8} {k : Int} {len : Nat} {n : Int} (h : fs (x ++ 32 :: r) = some (k, len, n)) : bl false (x ++ 32 :: r) = 0 := by
  obtain ⟨c, q, e⟩ : ∃ c q, x ++ (32 : UInt8) :: r = c :: q := by
    cases x with
    | nil => exact ⟨_, _, rfl⟩
    | cons a l => exact ⟨_, _, rfl⟩
  rw [e] at h ⊢
  unfold bl
  rw [if_neg (by rw [fs_head h]; decide)]
theorem bl_lay (rm : Bool) (ws : List Wd) (h : ∀ x ∈ ws, OkW x) : bl false (lay rm ws) = 0 := by
  cases ws with
  | nil => rfl
  | cons x l =>
    have := h x (by simp) (sq rm ++ lay rm l)
    show bl false ((x.t.data.toList ++ 32 :: sq rm) ++ lay rm l) = 0
    rw [List.append_assoc, List.cons_append]
    exact bl_word this
theorem lay_snoc (rm : Bool) (l : List Wd) (x : Wd) : lay rm (l ++ [x]) = lay rm l ++ (x.t.data.toList ++ 32 :: sq rm) := by simp [lay]
theorem lay_app (rm : Bool) (l r : List Wd) : lay rm (l ++ r) = lay rm l ++ lay rm r := by simp [lay]
theorem it_lay (rm : Bool) (T : ByteArray) (ws : List Wd) (hT : T.data.toList = lay rm ws) (hok : ∀ x ∈ ws, OkW x) (j : Nat) : j ≤ ws.length → ∃ l : List Wd, it T j = (l, (lay rm (ws.take j)).length) ∧ l.length = j ∧ ∀ (i : Nat) (x : Wd), i < j → ws[i]? = some x → ∃ p, l[i]? = some (Wd.mk x.k x.t x.n p) := by
  induction j with
  | zero =>
    intro _
    refine ⟨[], ?_, rfl, fun i x hi => by omega⟩
    show ([], bl false T.data.toList) = _
    rw [hT, bl_lay rm ws hok]
    rfl
  | succ j ih =>
    intro hj
    obtain ⟨l, h1, h2, h3⟩ := ih (by omega)
    obtain ⟨x, hx⟩ : ∃ x, ws[j]? = some x := ⟨_, List.getElem?_eq_getElem (by omega)⟩
    have hxm : x ∈ ws := List.mem_of_getElem? hx
    have htk : ws.take (j + 1) = ws.take j ++ [x] := by rw [List.take_add_one, hx]; rfl
    have hdr : ws.drop j = x :: ws.drop (j + 1) := by
      obtain ⟨hlt, hg⟩ := List.getElem?_eq_some_iff.1 hx
      rw [List.drop_eq_getElem_cons hlt, hg]
    obtain ⟨P, hP⟩ : ∃ P, P = (lay rm (ws.take j)).length := ⟨_, rfl⟩
    have hTs : T.data.toList = lay rm (ws.take j) ++ (x.t.data.toList ++ 32 :: (sq rm ++ lay rm (ws.drop (j + 1)))) := by
      have e : ws = ws.take j ++ (x :: ws.drop (j + 1)) := by rw [← hdr, List.take_append_drop]
      rw [hT]
      conv => lhs; rw [e, lay_app]
      congr 1
      show (x.t.data.toList ++ 32 :: sq rm) ++ lay rm (ws.drop (j + 1)) = _
      rw [List.append_assoc, List.cons_append]
    have hd : T.data.toList.drop P = x.t.data.toList ++ 32 :: (sq rm ++ lay rm (ws.drop (j + 1))) := by rw [hTs, hP]; exact List.drop_left
    have hf : fs (T.data.toList.drop P) = some (x.k, x.t.size, x.n) := by rw [hd]; exact hok x hxm _
    have hfl := fs_len hf
    rw [List.length_drop, str_len] at hfl
    have hst := stp_of (i := P) (by omega) hf
    have hxt : T.extract P (P + x.t.size) = x.t := by
      refine (str_mk (l := x.t.data.toList) ?_).trans (str_mk rfl).symm
      rw [ext_list, List.drop_take, hd, show P + x.t.size - P = x.t.data.toList.length by rw [str_len]; omega]
      exact List.take_left
    have hb : bl false (T.data.toList.drop (P + x.t.size)) = (sq rm).length + 1 := by
      rw [← List.drop_drop, hd, ← str_len x.t, List.drop_left, ← List.cons_append]
      exact sq_bl rm (bl_lay rm _ (fun y hy => hok y (List.mem_of_mem_drop hy)))
    rw [hxt, hb] at hst
    refine ⟨l ++ [⟨x.k, x.t, x.n, P⟩], ?_, by simp [h2], fun i y hi hy => ?_⟩
    · rw [it_succ, h1, ← hP, hst, htk, lay_snoc]
      simp only [List.length_append, List.length_cons, str_len, ← hP]
      rw [Nat.add_assoc]
    · rcases Nat.lt_or_ge i j with h | h
      · obtain ⟨p, hp⟩ := h3 i y h hy
        exact ⟨p, (List.getElem?_append_left (by omega)).trans hp⟩
      · obtain rfl : i = j := by omega
        obtain rfl : x = y := Option.some.inj (hx.symm.trans hy)
        refine ⟨P, ?_⟩
        rw [List.getElem?_append_right (by omega), h2]
        simp
/-- The words again, but their places. -/
theorem fin_lay (rm : Bool) (T : ByteArray) (ws : List Wd) (hT : T.data.toList = lay rm ws) (hok : ∀ x ∈ ws, OkW x) : ∃ l : List Wd, fin T = (l, T.size) ∧ l.length = ws.length ∧ ∀ (i : Nat) (x : Wd), ws[i]? = some x → ∃ p, l[i]? = some (Wd.mk x.k x.t x.n p) := by
  obtain ⟨l, h1, h2, h3⟩ := it_lay rm T ws hT hok ws.length (Nat.le_refl _)
  rw [List.take_length, ← hT, str_len] at h1
  refine ⟨l, ?_, h2, fun i x hx => h3 i x (List.getElem?_eq_some_iff.1 hx).1 hx⟩
  rw [← it_fin (j := ws.length) (by rw [h1]; unfold stp; rw [if_neg (Nat.lt_irrefl _)]) (by rw [h1]; exact h2), h1]
/-- A text's words are words with a blank behind each, too. -/
theorem words_ok (s : ByteArray) (n : Nat) (hl : (it s n).1.length = n) : ∀ x ∈ (it s n).1, OkW x ∧ x.t.size ≤ s.size := by
  intro x hx
  obtain ⟨i, hi, hg⟩ := List.getElem_of_mem hx
  obtain ⟨_, k, len, v, h1, h2, h3, _, h5, h6⟩ := it_get s n hl i (by omega)
  rw [List.getElem?_eq_getElem hi, hg] at h1
  obtain rfl := Option.some.inj h1
  have hz : (s.extract (it s i).2 ((it s i).2 + len)).size = len := by rw [← str_len, ext_list, List.length_drop, List.length_take, str_len]; omega
  refine ⟨fun r => ?_, by show (s.extract _ _).size ≤ _; rw [hz]; omega⟩
  show fs ((s.extract (it s i).2 ((it s i).2 + len)).data.toList ++ 32 :: r) = some (k, (s.extract (it s i).2 ((it s i).2 + len)).size, v)
  rw [hz, ext_list, List.drop_take, show (it s i).2 + len - (it s i).2 = len by omega]
  exact fs_blank h3 r
end Go.Proofs.YtkfkoopfoiekoaaDoor
