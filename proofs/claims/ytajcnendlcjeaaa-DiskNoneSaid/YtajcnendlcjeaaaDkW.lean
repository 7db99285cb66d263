/- The operations of a disk that is on, as walks take them; the document's example: it returns true. Conditions: those written at each theorem. -/
import Derived.Test.YtajcnendlcjeaaaDkT
namespace Go.Proofs.Ytajcnendlcjeaaa
open Go.RowKit Go.Maps Go.WideShapes
set_option linter.unusedVariables false
set_option linter.unusedSimpArgs false

/-- A disk that the run itself has made. -/
structure Own (w0 : World) (b m : Nat) (S : DS) (w : World) : Prop where
  dk : DkAt w0.heap.size b m S w
  bel : Below w0.heap.size w0 w
theorem Own.only {w0 : World} {b m : Nat} {S S' : DS} {w w' : World} (h : Own w0 b m S w) (hd : DkAt w0.heap.size b m S' w') (ho : Only (foot b m S) w w') : Own w0 b m S' w' :=
  ⟨hd, ho.below h.dk.lo h.bel.size h.bel⟩
theorem Own.under {w0 : World} {b m : Nat} {S : DS} {w w' : World} (h : Own w0 b m S w) (k : Below w.heap.size w w') : Own w0 b m S w' := ⟨h.dk.under k, below_mono h.bel k (Nat.le_refl _)⟩
theorem Own.drewN {w0 : World} {b m : Nat} {S : DS} {w : World} (h : Own w0 b m S w) (n : Nat) : Own w0 b m S (w.drewN n) := ⟨h.dk.stay fun _ _ => rfl, below_drewN h.bel n⟩
def GivesE (E : Int) (P : World → Prop) (e : Ending) (w' : World) : Prop := e = .returned (.int .i64 E) ∧ P w'
theorem own_new {w0 w : World} (room : Int) (h0 : 0 ≤ room) (h1 : room ≤ 16777216) (hb : Below w0.heap.size w0 w) :
    Calls Try.prog 11 #[.int .i64 room] w fun e w' => ∃ b m, e = .returned (.pointer (some ⟨b, 0, none⟩)) ∧ Own w0 b m (st room 0 0 0 []) w' := by
  refine (new_yes room h0 h1 w).mono fun e w' ⟨he, hd, hB⟩ => ⟨w.heap.size + 1, w.heap.size, he, ⟨?_, below_mono hb hB (Nat.le_refl _)⟩⟩
  have hle := hb.size
  exact ⟨hd.hd, hd.mp, (fun f hf => by cases hf), hd.nd, fun k hk => Nat.le_trans hle (hd.lo k hk)⟩
theorem own_append {w0 w : World} {b m : Nat} {r u q c : Int} {fs : List FileG} (h : Own w0 b m (st r u q c fs) w) (hg : SOk (st r u q c fs)) (name data : ByteArray) (hn : nameOk name.data.toList = true) (hns : name.size ≤ 1000) (hl : look fs name.data.toList = none) (hf : fs.length < 200) (hd : data.size ≤ 1048576) (hr : (data.size : Int) ≤ r - u) :
    Calls Try.prog 18 #[.pointer (some ⟨b, 0, none⟩), .string name, .string data] w (GivesE 0 fun w' => ∃ x : FileG, x.name = name.data.toList ∧ x.bytes = data.data.toList ∧ x.safe = 0 ∧ Own w0 b m (st r (u + data.size) (q + data.size) (c + 1) (putF fs x)) w') := by
  refine (append_any h.dk hg h.bel.size name data (by unfold maxLen; omega) (by unfold maxLen; omega)).mono fun e w' ⟨S', E, he, hR, hD, hO, _⟩ => ?_
  obtain ⟨rfl, x, h1, h2, h3, rfl⟩ := st_new hR hn hl hf hd hr
  exact ⟨he, x, h1, h2, h3, h.only hD hO⟩
theorem own_more {w0 w : World} {b m : Nat} {r u q c : Int} {fs : List FileG} (h : Own w0 b m (st r u q c fs) w) (hg : SOk (st r u q c fs)) (name data : ByteArray) (hn : nameOk name.data.toList = true) (hns : name.size ≤ 1000) {f : FileG} (hl : look fs name.data.toList = some f) (hd : f.bytes.length + data.size ≤ 1048576) (hr : (data.size : Int) ≤ r - u) :
    Calls Try.prog 18 #[.pointer (some ⟨b, 0, none⟩), .string name, .string data] w (GivesE 0 fun w' => ∃ x : FileG, x.name = name.data.toList ∧ x.bytes = f.bytes ++ data.data.toList ∧ x.safe = f.safe ∧ Own w0 b m (st r (u + data.size) (q + data.size) (c + 1) (putF fs x)) w') := by
  refine (append_any h.dk hg h.bel.size name data (by unfold maxLen; omega) (by unfold maxLen; omega)).mono fun e w' ⟨S', E, he, hR, hD, hO, _⟩ => ?_
  obtain ⟨rfl, x, h1, h2, h3, rfl⟩ := st_more hR hn hl hd hr
  exact ⟨he, x, h1, h2, h3, h.only hD hO⟩
theorem own_sync {w0 w : World} {b m : Nat} {r u q c : Int} {fs : List FileG} (h : Own w0 b m (st r u q c fs) w) (hg : SOk (st r u q c fs)) (name : ByteArray) (hn : nameOk name.data.toList = true) (hns : name.size ≤ 1000) {f : FileG} (hl : look fs name.data.toList = some f) :
    Calls Try.prog 19 #[.pointer (some ⟨b, 0, none⟩), .string name] w (GivesE 0 fun w' => Own w0 b m (st r u q (c + 1) (setF fs { f with safe := f.bytes.length })) w') := by
  refine (sync_any h.dk hg name (by unfold maxLen; omega)).mono fun e w' ⟨S', E, he, hR, hD, hO, _⟩ => ?_
  obtain ⟨rfl, rfl⟩ := st_sync hR hn hl
  exact ⟨he, h.only hD hO⟩
/-- A crash at which so much of the first file is kept; the slice is the walk's own. -/
theorem own_crash {w0 w : World} {b m : Nat} {r u q c : Int} {fs : List FileG} (h : Own w0 b m (st r u q c fs) w) (hg : SOk (st r u q c fs)) (K Z : Int) (hK : -9223372036854775808 ≤ K ∧ K ≤ 9223372036854775807) :
    Calls Try.prog 20 #[.pointer (some ⟨b, 0, none⟩), .slice (some ⟨w.heap.size, 0, none⟩) 1 1] (w.alloc (.cells #[.int .i64 K, .int .i64 Z] 47)) fun e w' => e = .returned (.tuple #[]) ∧ ∃ fs', KeptL [(K, Z)] fs fs' ∧ Own w0 b m (st r (sumB fs') q c fs') w' := by
  have h1 := h.under ((Below.refl w.heap.size w).alloc (Nat.le_refl _) (.cells #[.int .i64 K, .int .i64 Z] 47))
  refine (crash_any h1.dk hg (some ⟨w.heap.size, 0, none⟩) 1 [(K, Z)] (by simp) (by unfold maxLen; omega) (KAt.one w K Z) (fun k hk => by simp at hk; subst hk; exact hK) (fun a e => by
    cases e
    exact ⟨by simp, foot_lt h.dk⟩)).mono fun e w' ⟨he, S', hR, hD, hO, _⟩ => ?_
  obtain ⟨h2, h3⟩ := st_crash hR
  rw [h3] at hD
  exact ⟨he, _, h2, h1.only hD hO⟩
/-- .. and of none anything. -/
theorem own_crash_nil {w0 w : World} {b m : Nat} {r u q c : Int} {fs : List FileG} (h : Own w0 b m (st r u q c fs) w) (hg : SOk (st r u q c fs)) :
    Calls Try.prog 20 #[.pointer (some ⟨b, 0, none⟩), .slice none 0 0] w fun e w' => e = .returned (.tuple #[]) ∧ ∃ fs', KeptL [] fs fs' ∧ Own w0 b m (st r (sumB fs') q c fs') w' := by
  refine (crash_any h.dk hg none 0 [] (by simp) (by unfold maxLen; omega) ⟨(fun h => by simp at h), (fun a e => by cases e)⟩ (fun k hk => by cases hk) (fun a e => by cases e)).mono fun e w' ⟨he, S', hR, hD, hO, _⟩ => ?_
  obtain ⟨h2, h3⟩ := st_crash hR
  rw [h3] at hD
  exact ⟨he, _, h2, h.only hD hO⟩
theorem nameA : nameOk (⟨#[97]⟩ : ByteArray).data.toList = true := by decide
set_option maxRecDepth 100000 in
set_option maxHeartbeats 2000000 in
theorem awake_any (w : World) : Calls Try.prog 10 #[] w fun e w' => e = .returned (.bool true) ∧ Below w.heap.size w w' := by
  have C1 := Lib.hid (own_new (w0 := w) 100 (by omega) (by omega) (Below.refl w.heap.size w))
  go_enter Try.func10, Try.ntmps10
  go_wp2_with fail
  refine C1.out.mono ?_
  rintro e w1 ⟨b, m, rfl, hO⟩
  have O1 := Lib.hid hO
  have C2 := Lib.hid (own_append hO (by constructor <;> simp [st]) ⟨#[97]⟩ ⟨#[120, 121]⟩ nameA (by decide) rfl (by simp) (by decide) (by decide))
  clear C1 hO
  go_wp2_with fail
  refine C2.out.mono ?_
  rintro e w2 ⟨rfl, x1, n1, b1, s1, hO⟩
  rw [put_nil] at hO
  have O2 := Lib.hid hO
  have hg2 : SOk (st 100 (0 + ((⟨#[120, 121]⟩ : ByteArray).size : Int)) (0 + ((⟨#[120, 121]⟩ : ByteArray).size : Int)) (0 + 1) [x1]) := by
    refine st_ok (by decide) (by decide) (by decide) (by decide) (by decide) (by decide) (by decide) (by simp) ?_ ?_ ?_ <;> intro f hf <;> simp at hf <;> subst hf
    · rw [b1]; decide
    · rw [s1]; omega
    · rw [n1]; decide
  have C3 := Lib.hid (own_sync hO hg2 ⟨#[97]⟩ nameA (by decide) (look_one n1))
  have N1 := Lib.hid (show x1.name = [97] ∧ x1.bytes = [120, 121] ∧ x1.safe = 0 from ⟨n1, b1, s1⟩)
  clear C2 hO hg2 n1 b1 s1 O1
  go_wp2_with fail
  refine C3.out.mono ?_
  rintro e w3 ⟨rfl, hO⟩
  rw [set_one (f := x1) (x := { x1 with safe := x1.bytes.length }) rfl] at hO
  obtain ⟨x2, hx2⟩ : ∃ x2 : FileG, x2 = { x1 with safe := x1.bytes.length } := ⟨_, rfl⟩
  rw [← hx2] at hO
  have N2 : Hid (x2.name = [97] ∧ x2.bytes = [120, 121] ∧ x2.safe = 2) := Lib.hid (by subst hx2; exact ⟨N1.out.1, N1.out.2.1, by dsimp only; rw [N1.out.2.1]; rfl⟩)
  have hg3 : SOk (st 100 (0 + ((⟨#[120, 121]⟩ : ByteArray).size : Int)) (0 + ((⟨#[120, 121]⟩ : ByteArray).size : Int)) (0 + 1 + 1) [x2]) := by
    refine st_ok (by decide) (by decide) (by decide) (by decide) (by decide) (by decide) (by decide) (by simp) ?_ ?_ ?_ <;> intro f hf <;> simp at hf <;> subst hf
    · rw [N2.out.2.1]; decide
    · rw [N2.out.2.1, N2.out.2.2]; decide
    · rw [N2.out.1]; decide
  have C4 := Lib.hid (own_more hO hg3 ⟨#[97]⟩ ⟨#[122]⟩ nameA (by decide) (look_one N2.out.1) (by rw [N2.out.2.1]; decide) (by decide))
  clear C3 hO hg3 hx2 O2
  go_wp2_with fail
  refine C4.out.mono ?_
  rintro e w4 ⟨rfl, x3, n3, b3, s3, hO⟩
  rw [put_one (by rw [N2.out.1, n3])] at hO
  have N3 : Hid (x3.name = [97] ∧ x3.bytes = [120, 121, 122] ∧ x3.safe = 2) := Lib.hid ⟨n3, by rw [b3, N2.out.2.1]; rfl, by rw [s3, N2.out.2.2]⟩
  have C5 := Lib.hid (own_crash hO (by
    refine st_ok (by decide) (by decide) (by decide) (by decide) (by decide) (by decide) (by decide) (by simp) ?_ ?_ ?_ <;> intro f hf <;> simp at hf <;> subst hf
    · rw [N3.out.2.1]; decide
    · rw [N3.out.2.1, N3.out.2.2]; decide
    · rw [N3.out.1]; decide) 1 0 (by omega))
  clear C4 hO n3 b3 s3 N1 N2
  go_wp2_with fail
  refine C5.out.mono ?_
  rintro e w5 ⟨rfl, fs', hk, hO⟩
  obtain ⟨x4, rfl, hk4⟩ := kept_one hk
  have hb4 : x4.name = [97] ∧ x4.bytes = [120, 121, 223] ∧ x4.safe = 3 := by
    refine ⟨by rw [hk4.nm, N3.out.1], ?_, ?_⟩
    · rw [hk4.by_, N3.out.2.1, N3.out.2.2]; decide
    · rw [hk4.sf, N3.out.2.1, N3.out.2.2]; decide
  have hs4 : sumB [x4] = 3 := by simp [sumB, hb4.2.1]
  rw [hs4] at hO
  have C6 := read_any hO.dk ⟨#[97]⟩ (by decide)
  have e6 : readV (st 100 ((3 : Nat) : Int) (0 + ((⟨#[120, 121]⟩ : ByteArray).size : Int) + ((⟨#[122]⟩ : ByteArray).size : Int)) (0 + 1 + 1 + 1) [x4]) (⟨#[97]⟩ : ByteArray).data.toList = .tuple #[.string ⟨#[120, 121, 223]⟩, .int .i64 0] := by
    unfold readV
    rw [if_neg (by simp [st]), show (st 100 ((3 : Nat) : Int) (0 + ((⟨#[120, 121]⟩ : ByteArray).size : Int) + ((⟨#[122]⟩ : ByteArray).size : Int)) (0 + 1 + 1 + 1) [x4]).fs = [x4] from rfl, look_one (n := (⟨#[97]⟩ : ByteArray).data.toList) hb4.1]
    dsimp only
    rw [hb4.2.1]
  rw [e6] at C6
  have H6 := Lib.hid C6
  have C7 := safe_any hO.dk ⟨#[97]⟩ (by decide)
  have e7 : safeV (st 100 ((3 : Nat) : Int) (0 + ((⟨#[120, 121]⟩ : ByteArray).size : Int) + ((⟨#[122]⟩ : ByteArray).size : Int)) (0 + 1 + 1 + 1) [x4]) (⟨#[97]⟩ : ByteArray).data.toList = 3 := by
    unfold safeV
    rw [show (st 100 ((3 : Nat) : Int) (0 + ((⟨#[120, 121]⟩ : ByteArray).size : Int) + ((⟨#[122]⟩ : ByteArray).size : Int)) (0 + 1 + 1 + 1) [x4]).fs = [x4] from rfl, look_one (n := (⟨#[97]⟩ : ByteArray).data.toList) hb4.1]
    simp [hb4.2.2]
  rw [e7] at C7
  have H7 := Lib.hid C7
  have H8 : Hid (Calls Try.prog 27 #[.pointer (some ⟨b, 0, none⟩)] w5 fun e w' => e = .returned (.int .i64 3) ∧ w5 = w') := Lib.hid (used_any hO.dk)
  have HB := Lib.hid hO.bel
  clear C5 hk hk4 hb4 hs4 hO C6 e6 C7 e7 N3
  go_wp2_with fail
  refine H6.out.mono ?_
  rintro e w6 ⟨rfl, rfl⟩
  go_wp2_with fail
  refine H7.out.mono ?_
  rintro e w7 ⟨rfl, rfl⟩
  go_wp2_with fail
  refine H8.out.mono ?_
  rintro e w8 ⟨rfl, rfl⟩
  go_wp2_with fail
  go_ret
  exact ⟨rfl, HB.out⟩
end Go.Proofs.Ytajcnendlcjeaaa
