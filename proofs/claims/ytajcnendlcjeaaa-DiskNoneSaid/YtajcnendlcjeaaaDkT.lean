/- Disks that are on and not armed: what their operations come to; the document's example. Conditions: those written at each theorem. -/
import Derived.Test.YtajcnendlcjeaaaDkX
namespace Go.Proofs.Ytajcnendlcjeaaa
open Go.RowKit Go.Maps Go.WideShapes
set_option linter.unusedVariables false
set_option linter.unusedSimpArgs false

/-- A disk that is on and not armed. -/
def st (room used written calls : Int) (fs : List FileG) : DS := ⟨room, used, written, calls, false, false, 0, fs⟩
theorem new_st (room : Int) : newS room = st room 0 0 0 [] := rfl
theorem st_begin (r u q c : Int) (fs : List FileG) (ns : List (List UInt8)) : beginS (st r u q c fs) ns = (st r u q (c + 1) fs, if ns.all nameOk = true then 0 else 1) := by
  unfold beginS st
  simp
theorem st_ok {r u q c : Int} {fs : List FileG} (h1 : 0 ≤ u) (h2 : u ≤ r) (h3 : r ≤ 16777216) (h4 : 0 ≤ q) (h5 : q ≤ 4611686018427387904) (h6 : 0 ≤ c) (h7 : c ≤ 4611686018427387904) (h8 : fs.length ≤ 200)
    (h9 : ∀ f ∈ fs, f.bytes.length ≤ 1048576) (h10 : ∀ f ∈ fs, f.safe ≤ f.bytes.length) (h11 : ∀ f ∈ fs, f.name.length ≤ 24) : SOk (st r u q c fs) := by
  constructor <;> (try assumption) <;> simp [st]
theorem st_new {r u q c : Int} {fs : List FileG} {n d : List UInt8} {S' : DS} {E : Int} (h : AppendR (st r u q c fs) n d S' E) (hn : nameOk n = true) (hl : look fs n = none) (hf : fs.length < 200) (hd : d.length ≤ 1048576) (hr : (d.length : Int) ≤ r - u) :
    E = 0 ∧ ∃ x : FileG, x.name = n ∧ x.bytes = d ∧ x.safe = 0 ∧ S' = st r (u + d.length) (q + d.length) (c + 1) (putF fs x) := by
  unfold AppendR at h
  rw [st_begin] at h
  have e1 : (if [n].all nameOk = true then (0 : Int) else 1) = 0 := by simp [hn]
  rw [e1] at h
  simp only [ne_eq, not_true_eq_false, if_false] at h
  have e2 : look (st r u q c fs).fs n = none := hl
  rw [e2] at h
  rw [if_neg (by intro h'; have : 200 ≤ fs.length := h'.2; omega), if_neg (by simp; omega), if_neg (by show ¬ (r - u < (d.length : Int)); omega)] at h
  obtain ⟨h1, x, h2, h3, h4, h5⟩ := h
  exact ⟨h1, x, h2, by simpa using h3, by simpa using h4, h5⟩
theorem st_more {r u q c : Int} {fs : List FileG} {n d : List UInt8} {S' : DS} {E : Int} (h : AppendR (st r u q c fs) n d S' E) (hn : nameOk n = true) {f : FileG} (hl : look fs n = some f) (hd : f.bytes.length + d.length ≤ 1048576) (hr : (d.length : Int) ≤ r - u) :
    E = 0 ∧ ∃ x : FileG, x.name = n ∧ x.bytes = f.bytes ++ d ∧ x.safe = f.safe ∧ S' = st r (u + d.length) (q + d.length) (c + 1) (putF fs x) := by
  unfold AppendR at h
  rw [st_begin] at h
  have e1 : (if [n].all nameOk = true then (0 : Int) else 1) = 0 := by simp [hn]
  rw [e1] at h
  simp only [ne_eq, not_true_eq_false, if_false] at h
  have e2 : look (st r u q c fs).fs n = some f := hl
  rw [e2] at h
  rw [if_neg (by rintro ⟨h', _⟩; cases h'), if_neg (by simp only [Option.map_some, Option.getD_some]; omega), if_neg (by show ¬ (r - u < (d.length : Int)); omega)] at h
  obtain ⟨h1, x, h2, h3, h4, h5⟩ := h
  exact ⟨h1, x, h2, h3, h4, h5⟩
theorem st_sync {r u q c : Int} {fs : List FileG} {n : List UInt8} {S' : DS} {E : Int} (h : SyncR (st r u q c fs) n S' E) (hn : nameOk n = true) {f : FileG} (hl : look fs n = some f) :
    E = 0 ∧ S' = st r u q (c + 1) (setF fs { f with safe := f.bytes.length }) := by
  unfold SyncR at h
  rw [st_begin] at h
  have e1 : (if [n].all nameOk = true then (0 : Int) else 1) = 0 := by simp [hn]
  rw [e1] at h
  simp only [ne_eq, not_true_eq_false, if_false] at h
  have e2 : look (st r u q c fs).fs n = some f := hl
  rw [e2] at h
  exact ⟨h.2, h.1⟩
theorem st_crash {r u q c : Int} {fs : List FileG} {ks : List (Int × Int)} {S' : DS} (h : CrashR (st r u q c fs) ks S') : KeptL ks fs S'.fs ∧ S' = st r (sumB S'.fs) q c S'.fs := by
  obtain ⟨h1, h2⟩ := h
  exact ⟨h1, h2⟩
theorem put_nil (x : FileG) : putF [] x = [x] := rfl
theorem put_one {f x : FileG} (h : f.name = x.name) : putF [f] x = [x] := by unfold putF delF; simp [h, insF]
theorem set_one {f x : FileG} (h : f.name = x.name) : setF [f] x = [x] := by unfold setF; simp [h]
theorem look_one {f : FileG} {n : List UInt8} (h : f.name = n) : look [f] n = some f := by unfold look; simp [h]
theorem kept_one {ks : List (Int × Int)} {f : FileG} {xs : List FileG} (h : KeptL ks [f] xs) : ∃ x, xs = [x] ∧ Kept ks 0 f x := by
  obtain ⟨h1, h2⟩ := h
  match xs, h1 with
  | [x], _ => exact ⟨x, rfl, h2 0 f x rfl rfl⟩
/-- A slice of what is kept, as a walk makes it. -/
theorem KAt.one (w : World) (K Z : Int) : KAt (some ⟨w.heap.size, 0, none⟩) [(K, Z)] (w.alloc (.cells #[.int .i64 K, .int .i64 Z] 47)) :=
  ⟨fun _ => ⟨_, rfl⟩, fun a e i k hk => by
    cases e
    match i, hk with
    | 0, hk => simp at hk; subst hk; simp [Addr.add]⟩
theorem foot_lt {B b m : Nat} {S : DS} {w : World} (h : DkAt B b m S w) : w.heap.size ∉ foot b m S := fun hm => by have := h.lt _ hm; omega
end Go.Proofs.Ytajcnendlcjeaaa
