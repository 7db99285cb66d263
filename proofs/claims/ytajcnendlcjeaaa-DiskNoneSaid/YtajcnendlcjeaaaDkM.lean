/- Plain: files by their names, as a map of pointers is read. -/
import Derived.Maps.OwnSet
import Derived.Maps.Ext
import Derived.Sort.KeysCollected
import Derived.Lib.Hide
namespace Go.Proofs.Ytajcnendlcjeaaa
open Go.RowKit Go.Maps Go.WideShapes
set_option linter.unusedVariables false
set_option linter.unusedSimpArgs false

/-- How a pointer in a map is read. -/
def rp : Value → Option (DataW Unit × List MemPlace)
  | .pointer (some ⟨b, 0, none⟩) => some (.lit (.int .i64 b), [])
  | .pointer none => some (.nil, [])
  | _ => none
theorem rp_at (b : Nat) : rp (.pointer (some ⟨b, 0, none⟩)) = some (.lit (.int .i64 b), []) := rfl
theorem rp_none : rp (.pointer none) = some (.nil, []) := rfl
theorem rp_inv {v : Value} {z : DataW Unit × List MemPlace} (h : rp v = some z) : (∃ b : Nat, v = .pointer (some ⟨b, 0, none⟩) ∧ z = (.lit (.int .i64 b), [])) ∨ (v = .pointer none ∧ z = (.nil, [])) := by
  unfold rp at h
  split at h
  · injection h with h; exact .inl ⟨_, rfl, h.symm⟩
  · injection h with h; exact .inr ⟨rfl, h.symm⟩
  · cases h

/-- A file: its name, its block, its bytes' slice, its bytes, how many are safe. -/
structure FileG where
  name : List UInt8
  blk : Nat
  v : Value
  bytes : List UInt8
  safe : Nat
/-- Files, as the map is read. -/
def mkD (l : List FileG) : DataW Unit := .map (l.map fun f => (.string f.name, .lit (.int .i64 f.blk)))
/-- A file by its name. -/
def look (l : List FileG) (k : List UInt8) : Option FileG := l.find? fun f => f.name == k
def delF (l : List FileG) (k : List UInt8) : List FileG := l.filter fun f => !(f.name == k)
def insF (x : FileG) : List FileG → List FileG
  | [] => [x]
  | y :: r => if bytesBefore x.name y.name then x :: y :: r else y :: insF x r
def putF (l : List FileG) (x : FileG) : List FileG := insF x (delF l x.name)
theorem mkD_del (l : List FileG) (k : List UInt8) : (mkD l).del (.string k) = mkD (delF l k) := by
  show DataW.map _ = DataW.map _
  congr 1
  unfold delF
  induction l with
  | nil => rfl
  | cons f l ih =>
    simp only [List.map_cons, List.filter_cons, Lit.sameKey]
    split <;> simp_all [Lit.sameKey]
theorem mkD_ins (x : FileG) (l : List FileG) : DataW.insert (.string x.name, .lit (.int .i64 x.blk)) (l.map fun f => ((.string f.name : Lit), (.lit (.int .i64 f.blk) : DataW Unit))) = (insF x l).map fun f => (.string f.name, .lit (.int .i64 f.blk)) := by
  induction l with
  | nil => rfl
  | cons y l ih =>
    by_cases h : bytesBefore x.name y.name = true
    · simp [DataW.insert, insF, Lit.before, h]
    · simp [DataW.insert, insF, Lit.before, h, ih]
theorem mkD_put (l : List FileG) (x : FileG) : (mkD l).put (.string x.name) (.lit (.int .i64 x.blk)) = mkD (putF l x) := by
  have h := mkD_del l x.name
  have h2 : (l.map fun f => ((.string f.name : Lit), (.lit (.int .i64 f.blk) : DataW Unit))).filter (fun p => !p.1.sameKey (.string x.name)) = (delF l x.name).map fun f => (.string f.name, .lit (.int .i64 f.blk)) := by
    injection h
  show DataW.map (DataW.insert _ _) = DataW.map _
  rw [h2, mkD_ins]
  rfl
theorem mkD_find (l : List FileG) (k : List UInt8) : (l.map fun f => ((.string f.name : Lit), (.lit (.int .i64 f.blk) : DataW Unit))).find? (fun p => p.1.sameKey (.string k)) = (look l k).map fun f => (.string f.name, .lit (.int .i64 f.blk)) := by
  rw [List.find?_map]; rfl
theorem mkD_at (l : List FileG) (k : List UInt8) (z : DataW Unit) : (mkD l).atKey (.string k) z = match look l k with
    | some f => .lit (.int .i64 f.blk)
    | none => z := by
  unfold DataW.atKey mkD
  simp only [mkD_find]
  cases look l k <;> rfl
theorem mkD_has (l : List FileG) (k : List UInt8) : has (mkD l) (.string k) = (look l k).isSome := by
  unfold look
  show (l.map fun f => ((.string f.name : Lit), (.lit (.int .i64 f.blk) : DataW Unit))).any (fun p => p.1.sameKey (.string k)) = _
  induction l with
  | nil => rfl
  | cons f l ih =>
    simp only [List.map_cons, List.any_cons, List.find?_cons, Lit.sameKey]
    cases h : f.name == k
    · simpa [h, Lit.sameKey] using ih
    · simp [h]
theorem mkD_size (l : List FileG) : size (mkD l) = l.length := by simp [mkD, size]
theorem mkD_keys (l : List FileG) : strKeys (mkD l) = l.map (·.name) := by
  simp only [mkD, strKeys, List.map_map]
  rfl
theorem look_mem {l : List FileG} {k : List UInt8} {f : FileG} (h : look l k = some f) : f ∈ l ∧ f.name = k := by
  unfold look at h
  exact ⟨List.mem_of_find?_eq_some h, by simpa using List.find?_some h⟩
theorem look_none {l : List FileG} {k : List UInt8} (h : look l k = none) : ∀ f ∈ l, f.name ≠ k := by
  unfold look at h
  intro f hf
  simpa using List.find?_eq_none.1 h f hf
theorem delF_none {l : List FileG} {k : List UInt8} (h : look l k = none) : delF l k = l := by
  unfold delF
  exact List.filter_eq_self.2 fun f hf => by simpa using look_none h f hf
theorem mem_insF {x f : FileG} : ∀ {l : List FileG}, f ∈ insF x l ↔ f = x ∨ f ∈ l
  | [] => by simp [insF]
  | y :: r => by
    unfold insF
    split
    · simp
    · simp only [List.mem_cons, mem_insF]
      constructor
      · rintro (h | h | h)
        · exact .inr (.inl h)
        · exact .inl h
        · exact .inr (.inr h)
      · rintro (h | h | h)
        · exact .inr (.inl h)
        · exact .inl h
        · exact .inr (.inr h)
theorem mem_delF {f : FileG} {l : List FileG} {k : List UInt8} : f ∈ delF l k ↔ f ∈ l ∧ f.name ≠ k := by
  unfold delF; simp
theorem mem_putF {x f : FileG} {l : List FileG} : f ∈ putF l x ↔ f = x ∨ f ∈ l ∧ f.name ≠ x.name := by
  unfold putF; rw [mem_insF, mem_delF]
theorem insF_length (x : FileG) : ∀ l : List FileG, (insF x l).length = l.length + 1
  | [] => rfl
  | y :: r => by
    unfold insF
    split
    · simp
    · simp [insF_length x r]
/-- The order of names. -/
abbrev Before (f g : FileG) : Prop := bytesBefore f.name g.name = true
end Go.Proofs.Ytajcnendlcjeaaa
