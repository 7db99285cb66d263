/- The law DiskNames: a file that is renamed has its bytes by the other name alone. Conditions: those written at each theorem. -/
import Derived.Test.YtajcnendlcjeaaaDkV
import Derived.Test.YtajcnendlcjeaaaLDk3
namespace Go.Proofs.Ytajcnendlcjeaaa
open Go.RowKit Go.Maps Go.WideShapes
set_option linter.unusedVariables false
set_option linter.unusedSimpArgs false

theorem list_len (a : ByteArray) : a.data.toList.length = a.size := rfl
set_option maxRecDepth 100000 in
theorem right_any (s : ByteArray) (w : World) : Calls Try.prog 22 #[.string s] w fun e w' => e = .returned (.bool (nameOk s.data.toList)) ∧ w = w' := by
  have hs : s.data.toList.length = s.size := rfl
  by_cases h1 : (1 : Int) ≤ s.size
  · by_cases h2 : (s.size : Int) ≤ 24
    · have e : nameOk s.data.toList = true := by unfold nameOk; rw [hs, decide_eq_true (by omega), decide_eq_true (by omega)]; rfl
      rw [e]
      clear e hs
      go_enter Try.func22, Try.ntmps22
      go_wp2_with fail
      go_ret
      exact ⟨rfl, rfl⟩
    · have e : nameOk s.data.toList = false := by unfold nameOk; rw [hs, decide_eq_false (p := s.size ≤ 24) (by omega)]; simp
      rw [e]
      clear e hs
      go_enter Try.func22, Try.ntmps22
      go_wp2_with fail
      go_ret
      exact ⟨rfl, rfl⟩
  · have e : nameOk s.data.toList = false := by unfold nameOk; rw [hs, decide_eq_false (by omega)]; rfl
    rw [e]
    clear e hs
    go_enter Try.func22, Try.ntmps22
    go_wp2_with fail
    go_ret
    exact ⟨rfl, rfl⟩
theorem own_ren {w0 w : World} {b m : Nat} {S : DS} (h : Own w0 b m S w) (hg : SOk S) (x y : ByteArray) (hx : x.size ≤ 1000) (hy : y.size ≤ 1000) :
    Calls Try.prog 23 #[.pointer (some ⟨b, 0, none⟩), .string x, .string y] w fun e w' => ∃ S' E, e = .returned (.int .i64 E) ∧ RenR S x.data.toList y.data.toList S' E ∧ Own w0 b m S' w' :=
  (rename_any h.dk hg x y (by unfold maxLen; omega) (by unfold maxLen; omega)).mono fun e w' ⟨S', E, he, hR, hD, hO⟩ => ⟨S', E, he, hR, h.only hD hO⟩
/-- Two files, in either order. -/
def Two (x1 x2 : FileG) (fs : List FileG) : Prop := fs = [x1, x2] ∨ fs = [x2, x1]
theorem put_two {x1 x2 : FileG} (h : x1.name ≠ x2.name) : Two x1 x2 (putF [x1] x2) := by
  unfold putF delF
  simp only [List.filter_cons, List.filter_nil]
  rw [if_pos (by simp [h])]
  unfold insF
  split
  · exact .inr rfl
  · exact .inl rfl
theorem Two.look1 {x1 x2 : FileG} {fs : List FileG} (h : Two x1 x2 fs) (hn : x1.name ≠ x2.name) : look fs x1.name = some x1 := by
  unfold look
  rcases h with rfl | rfl
  · simp
  · simp [Ne.symm hn]
theorem Two.look2 {x1 x2 : FileG} {fs : List FileG} (h : Two x1 x2 fs) (hn : x1.name ≠ x2.name) : look fs x2.name = some x2 := by
  unfold look
  rcases h with rfl | rfl
  · simp [hn]
  · simp
theorem Two.set {x1 x2 y : FileG} {fs : List FileG} (h : Two x1 x2 fs) (hn : x1.name ≠ x2.name) (hy : y.name = x1.name) : Two y x2 (setF fs y) := by
  unfold setF
  rcases h with rfl | rfl
  · refine .inl ?_; simp [hy]; intro e; exact absurd e.symm hn
  · refine .inr ?_; simp [hy]; intro e; exact absurd e.symm hn
theorem Two.dels {x1 x2 : FileG} {fs : List FileG} (h : Two x1 x2 fs) (hn : x1.name ≠ x2.name) : delF (delF fs x2.name) x1.name = [] := by
  unfold delF
  rcases h with rfl | rfl <;> simp [hn, Ne.symm hn]
theorem Two.all {x1 x2 : FileG} {fs : List FileG} (h : Two x1 x2 fs) : fs.length = 2 ∧ ∀ f ∈ fs, f = x1 ∨ f = x2 := by
  rcases h with rfl | rfl
  · exact ⟨rfl, by simp⟩
  · exact ⟨rfl, fun f hf => by simp at hf; rcases hf with h | h; exact .inr h; exact .inl h⟩
theorem two_ren {x1 x2 : FileG} {fs : List FileG} {r u q c : Int} {S' : DS} {E : Int} (h : Two x1 x2 fs) (hn : x1.name ≠ x2.name) (h1 : nameOk x1.name = true) (h2 : nameOk x2.name = true) (hR : RenR (st r u q c fs) x1.name x2.name S' E) :
    E = 0 ∧ S' = st r (u - x2.bytes.length) q (c + 1) [{ x1 with name := x2.name }] := by
  unfold RenR at hR
  rw [st_begin] at hR
  have e1 : (if [x1.name, x2.name].all nameOk = true then (0 : Int) else 1) = 0 := by simp [h1, h2]
  rw [e1, if_neg (by simp), show (st r u q c fs).fs = fs from rfl, h.look1 hn] at hR
  dsimp only at hR
  rw [if_neg hn, h.dels hn] at hR
  refine ⟨hR.1, ?_⟩
  rw [hR.2]
  unfold dropS
  rw [show (st r u q (c + 1) fs).fs = fs from rfl, h.look2 hn]
  rfl
theorem keep_none (bs : List UInt8) (s : Nat) (h : s ≤ bs.length) : keepB bs s 0 0 = bs.take s := by
  have e : keptN bs s 0 = s := by unfold keptN; omega
  unfold keepB
  rw [e]
  exact kp_start bs s 0 s h
theorem two_ok {x1 x2 : FileG} {fs : List FileG} {u q c : Int} (h : Two x1 x2 fs) (hu : 0 ≤ u ∧ u ≤ 1000) (hq : 0 ≤ q ∧ q ≤ 1000) (hc : 0 ≤ c ∧ c ≤ 1000) (h1 : x1.bytes.length ≤ 300) (h2 : x2.bytes.length ≤ 300) (s1 : x1.safe ≤ x1.bytes.length) (s2 : x2.safe ≤ x2.bytes.length) (n1 : x1.name.length ≤ 24) (n2 : x2.name.length ≤ 24) : SOk (st 1000 u q c fs) := by
  obtain ⟨g1, g2⟩ := h.all
  refine st_ok (by omega) (by omega) (by decide) (by omega) (by omega) (by omega) (by omega) (by omega) ?_ ?_ ?_ <;> intro f hf <;> rcases g2 f hf with rfl | rfl <;> omega
theorem one_ok {x1 : FileG} {u q c : Int} (hu : 0 ≤ u ∧ u ≤ 1000) (hq : 0 ≤ q ∧ q ≤ 1000) (hc : 0 ≤ c ∧ c ≤ 1000) (h1 : x1.bytes.length ≤ 300) (s1 : x1.safe ≤ x1.bytes.length) (n1 : x1.name.length ≤ 24) : SOk (st 1000 u q c [x1]) := by
  refine st_ok (by omega) (by omega) (by decide) (by omega) (by omega) (by omega) (by omega) (by simp) ?_ ?_ ?_ <;> intro f hf <;> simp at hf <;> subst hf <;> omega
theorem ok_len {l : List UInt8} (h : nameOk l = true) : l.length ≤ 24 := by unfold nameOk at h; simp at h; omega
theorem readV_one {r u q c : Int} {x : FileG} {n : List UInt8} (h : x.name = n) : readV (st r u q c [x]) n = .tuple #[.string ⟨x.bytes.toArray⟩, .int .i64 0] := by
  unfold readV
  rw [if_neg (by simp [st]), show (st r u q c [x]).fs = [x] from rfl, look_one h]
theorem readV_no {r u q c : Int} {x : FileG} {n : List UInt8} (h : x.name ≠ n) : readV (st r u q c [x]) n = .tuple #[.string ⟨#[]⟩, .int .i64 7] := by
  unfold readV
  rw [if_neg (by simp [st]), show (st r u q c [x]).fs = [x] from rfl, look_no (by simp [h])]
set_option maxRecDepth 100000 in
set_option maxHeartbeats 8000000 in
theorem diskNames_walk (a c fr tn : ByteArray) (sy : Bool) (ha : a.size ≤ maxLen) (hc : c.size ≤ maxLen) (hf : fr.size ≤ maxLen) (ht : tn.size ≤ maxLen) (W : World) :
    Calls Try.prog 5 #[.string a, .string c, .string fr, .string tn, .bool sy] W fun e W' => e = .returned (.bool true) ∧ Below W.heap.size W W' := by
  have CA := Lib.hid awake_any
  have CR := Lib.hid right_any
  go_enter Try.func5, Try.ntmps5
  by_cases ga : (300 : Int) < a.size
  case pos =>
    go_wp2_with fail
    refine (CA.out _).mono ?_
    rintro e w9 ⟨rfl, hB⟩
    have HB := Lib.hid hB
    clear hB
    go_wp2_with fail
    go_ret
    exact ⟨rfl, HB.out⟩
  by_cases gb : (300 : Int) < c.size
  case pos =>
    go_wp2_with fail
    refine (CA.out _).mono ?_
    rintro e w9 ⟨rfl, hB⟩
    have HB := Lib.hid hB
    clear hB
    go_wp2_with fail
    go_ret
    exact ⟨rfl, HB.out⟩
  go_wp2_with fail
  refine (CR.out _ _).mono ?_
  rintro e w0 ⟨rfl, rfl⟩
  cases hn1 : nameOk fr.data.toList with
  | false =>
    go_wp2_with fail
    refine (CA.out _).mono ?_
    rintro e w9 ⟨rfl, hB⟩
    have HB := Lib.hid hB
    clear hB
    go_wp2_with fail
    go_ret
    exact ⟨rfl, HB.out⟩
  | true =>
  go_wp2_with fail
  refine (CR.out _ _).mono ?_
  rintro e w0 ⟨rfl, rfl⟩
  cases hn2 : nameOk tn.data.toList with
  | false =>
    go_wp2_with fail
    refine (CA.out _).mono ?_
    rintro e w9 ⟨rfl, hB⟩
    have HB := Lib.hid hB
    clear hB
    go_wp2_with fail
    go_ret
    exact ⟨rfl, HB.out⟩
  | true =>
  by_cases hxy : fr = tn
  · subst hxy
    go_wp2_with fail
    refine (CA.out _).mono ?_
    rintro e w9 ⟨rfl, hB⟩
    have HB := Lib.hid hB
    clear hB
    go_wp2_with fail
    go_ret
    exact ⟨rfl, HB.out⟩
  have hxl : fr.data.toList ≠ tn.data.toList := fun e => hxy (ByteArray.ext (Array.toList_inj.1 e))
  have hxb : (fr.toList == tn.toList) = false := by rw [ByteArray.toList_eq, ByteArray.toList_eq, beq_eq_false_iff_ne]; exact hxl
  have HXL := Lib.hid hxl
  have HN1 := Lib.hid hn1
  have HN2 := Lib.hid hn2
  have HFS : Hid (fr.size ≤ 24 ∧ tn.size ≤ 24) := Lib.hid ⟨ok_len hn1, ok_len hn2⟩
  have ga' : a.size ≤ 300 := by omega
  have gb' : c.size ≤ 300 := by omega
  clear hxy hxl hn1 hn2
  go_wp2_with fail
  refine (CA.out _).mono ?_
  rintro e w1 ⟨rfl, hB⟩
  have CN := Lib.hid (own_new (w0 := W) (w := w1) 1000 (by omega) (by omega) hB)
  clear hB
  go_wp2_with fail
  refine CN.out.mono ?_
  rintro e w2 ⟨b, m, rfl, hO⟩
  have C2 := Lib.hid (own_append hO (by constructor <;> simp [st]) fr a HN1.out (by have := HFS.out.1; omega) rfl (by simp) (by omega) (by omega))
  clear CN hO
  go_wp2_with fail
  refine C2.out.mono ?_
  rintro e w3 ⟨rfl, x1, n1, b1, s1, hO⟩
  rw [put_nil] at hO
  have l1 : x1.bytes.length = a.size := by rw [b1, list_len]
  have C3 := Lib.hid (own_append hO (one_ok (by omega) (by omega) (by omega) (by omega) (by omega) (by rw [n1]; exact HFS.out.1)) tn c HN2.out (by have := HFS.out.2; omega) (look_no (by simp [n1, HXL.out])) (by simp) (by omega) (by omega))
  have N1 := Lib.hid (show x1.name = fr.data.toList ∧ x1.bytes = a.data.toList ∧ x1.safe = 0 from ⟨n1, b1, s1⟩)
  clear C2 hO n1 b1 s1 l1
  go_wp2_with fail
  refine C3.out.mono ?_
  rintro e w4 ⟨rfl, x2, n2, b2, s2, hO⟩
  have HNE : Hid (x1.name ≠ x2.name) := Lib.hid (by rw [N1.out.1, n2]; exact HXL.out)
  have HT : Hid (Two x1 x2 (putF [x1] x2)) := Lib.hid (put_two HNE.out)
  obtain ⟨fs, hfs⟩ : ∃ fs, fs = putF [x1] x2 := ⟨_, rfl⟩
  rw [← hfs] at hO HT
  have N2 := Lib.hid (show x2.name = tn.data.toList ∧ x2.bytes = c.data.toList ∧ x2.safe = 0 from ⟨n2, b2, s2⟩)
  have HLN : Hid (x1.bytes.length = a.size ∧ x2.bytes.length = c.size) := Lib.hid ⟨by rw [N1.out.2.1, list_len], by rw [b2, list_len]⟩
  have HO := Lib.hid hO
  clear C3 hO n2 b2 s2 hfs
  cases sy with
  | false =>
    obtain ⟨y1, hy1⟩ : ∃ y1, y1 = x1 := ⟨_, rfl⟩
    have HY : Hid (y1.name = fr.data.toList ∧ y1.bytes = a.data.toList ∧ y1.safe = 0 ∧ Two y1 x2 fs) := Lib.hid (by rw [hy1]; exact ⟨N1.out.1, N1.out.2.1, N1.out.2.2, HT.out⟩)
    have HV : Hid (a.data.toList.take 0 = []) := Lib.hid rfl
    have HW : Hid (∃ k : Int, 0 ≤ k ∧ k ≤ 10 ∧ Own W b m (st 1000 (0 + a.size + c.size) (0 + a.size + c.size) k fs) w4) := Lib.hid ⟨_, by omega, by omega, HO.out⟩
    clear hy1 HO HT N1
    obtain ⟨k, k0, k10, hO⟩ := HW.out
    have hne : y1.name ≠ x2.name := by rw [HY.out.1, N2.out.1]; exact HXL.out
    have C5 := Lib.hid (own_ren hO (two_ok HY.out.2.2.2 (by omega) (by omega) (by omega) (by rw [HY.out.2.1, list_len]; omega) (by have := HLN.out; omega) (by rw [HY.out.2.1, HY.out.2.2.1, list_len]; omega) (by rw [N2.out.2.2]; omega) (by rw [HY.out.1]; exact HFS.out.1) (by rw [N2.out.1]; exact HFS.out.2)) fr tn (by have := HFS.out.1; omega) (by have := HFS.out.2; omega))
    rw [← HY.out.1, ← N2.out.1] at C5
    have HNY := Lib.hid hne
    clear hO HW hne
    go_wp2_with fail
    refine C5.out.mono ?_
    rintro e w6 ⟨S', E, rfl, hR, hO⟩
    obtain ⟨rfl, rfl⟩ := two_ren HY.out.2.2.2 HNY.out (by rw [HY.out.1]; exact HN1.out) (by rw [N2.out.1]; exact HN2.out) hR
    rw [HLN.out.2] at hO
    obtain ⟨x4, hx4⟩ : ∃ x4 : FileG, x4 = { y1 with name := x2.name } := ⟨_, rfl⟩
    rw [← hx4] at hO
    have H4 : Hid (x4.name = tn.data.toList ∧ x4.bytes = a.data.toList ∧ x4.safe = 0) := Lib.hid ⟨by rw [hx4]; exact N2.out.1, by rw [hx4]; exact HY.out.2.1, by rw [hx4]; exact HY.out.2.2.1⟩
    have R1 := read_any hO.dk fr (by unfold maxLen; have := HFS.out.1; omega)
    rw [readV_no (by rw [H4.out.1]; exact fun e => HXL.out e.symm)] at R1
    have R2 := read_any hO.dk tn (by unfold maxLen; have := HFS.out.2; omega)
    rw [readV_one H4.out.1, H4.out.2.1] at R2
    have R1' := Lib.hid R1
    have R2' : Hid (Calls Try.prog 21 #[.pointer (some ⟨b, 0, none⟩), .string tn] w6 fun e w' => e = .returned (.tuple #[.string a, .int .i64 0]) ∧ w6 = w') := Lib.hid R2
    have C6 := Lib.hid (own_crash_nil hO (one_ok (by omega) (by omega) (by omega) (by rw [H4.out.2.1, list_len]; omega) (by rw [H4.out.2.1, H4.out.2.2, list_len]; omega) (by rw [H4.out.1]; exact HFS.out.2)))
    clear C5 hR hO hx4 R1 R2
    go_wp2_with fail
    refine R1'.out.mono ?_
    rintro e w7 ⟨rfl, rfl⟩
    go_wp2_with fail
    refine R2'.out.mono ?_
    rintro e w7 ⟨rfl, rfl⟩
    clear R1' R2'
    go_wp2_with fail
    refine C6.out.mono ?_
    rintro e w7 ⟨rfl, fs', hk, hO⟩
    obtain ⟨x5, rfl, hk5⟩ := kept_one hk
    have H5 : Hid (x5.name = tn.data.toList ∧ x5.bytes = a.data.toList.take (0)) := Lib.hid ⟨by rw [hk5.nm]; exact H4.out.1, by
      rw [hk5.by_, H4.out.2.1, H4.out.2.2]
      exact keep_none _ _ (by rw [list_len]; omega)⟩
    have R3 := read_any hO.dk tn (by unfold maxLen; have := HFS.out.2; omega)
    rw [readV_one H5.out.1, H5.out.2, HV.out] at R3
    have R3' : Hid (Calls Try.prog 21 #[.pointer (some ⟨b, 0, none⟩), .string tn] w7 fun e w' => e = .returned (.tuple #[.string ⟨#[]⟩, .int .i64 0]) ∧ w7 = w') := Lib.hid R3
    have hs5 : sumB [x5] ≤ 300 := by
      have : x5.bytes.length ≤ a.size := by rw [H5.out.2, List.length_take, list_len]; omega
      simp [sumB]
      omega
    have hsf : x5.safe ≤ x5.bytes.length := by
      rw [hk5.sf, hk5.by_, keepB_len]
      exact Nat.le_refl _
    have CM := Lib.hid (own_names hO (one_ok (by omega) (by omega) (by omega) (by simp [sumB] at hs5; omega) hsf (by rw [H5.out.1]; exact HFS.out.2)))
    clear C6 hk hk5 hO R3 hs5 hsf
    go_wp2_with fail
    refine R3'.out.mono ?_
    rintro e w8 ⟨rfl, rfl⟩
    clear R3'
    go_wp2_with fail
    refine CM.out.mono ?_
    rintro e w8 ⟨va, vc, rfl, hO⟩
    have HB := Lib.hid hO.bel
    clear CM hO
    go_wp2_with fail
    go_ret
    exact ⟨rfl, HB.out⟩
  | true =>
    have C4 := Lib.hid (own_sync HO.out (two_ok HT.out (by omega) (by omega) (by omega) (by have := HLN.out; omega) (by have := HLN.out; omega) (by rw [N1.out.2.2]; omega) (by rw [N2.out.2.2]; omega) (by rw [N1.out.1]; exact HFS.out.1) (by rw [N2.out.1]; exact HFS.out.2)) fr HN1.out (by have := HFS.out.1; omega) (by rw [← N1.out.1]; exact HT.out.look1 HNE.out))
    clear HO
    go_wp2_with fail
    refine C4.out.mono ?_
    rintro e w5 ⟨rfl, hO⟩
    obtain ⟨y1, hy1⟩ : ∃ y1 : FileG, y1 = { x1 with safe := x1.bytes.length } := ⟨_, rfl⟩
    rw [← hy1] at hO
    have HT2 := HT.out.set HNE.out (y := y1) (by rw [hy1])
    obtain ⟨fs2, hfs2⟩ : ∃ fs2, fs2 = setF fs y1 := ⟨_, rfl⟩
    rw [← hfs2] at hO HT2
    have HY : Hid (y1.name = fr.data.toList ∧ y1.bytes = a.data.toList ∧ y1.safe = a.size ∧ Two y1 x2 fs2) := Lib.hid ⟨by rw [hy1]; exact N1.out.1, by rw [hy1]; exact N1.out.2.1, by rw [hy1]; exact HLN.out.1, HT2⟩
    have HV : Hid (a.data.toList.take a.size = a.data.toList) := Lib.hid (List.take_of_length_le (by rw [list_len]; exact Nat.le_refl _))
    have HW : Hid (∃ k : Int, 0 ≤ k ∧ k ≤ 10 ∧ Own W b m (st 1000 (0 + a.size + c.size) (0 + a.size + c.size) k fs2) w5) := Lib.hid ⟨_, by omega, by omega, hO⟩
    clear hy1 hO hfs2 HT2 HT N1 C4
    obtain ⟨k, k0, k10, hO⟩ := HW.out
    have hne : y1.name ≠ x2.name := by rw [HY.out.1, N2.out.1]; exact HXL.out
    have C5 := Lib.hid (own_ren hO (two_ok HY.out.2.2.2 (by omega) (by omega) (by omega) (by rw [HY.out.2.1, list_len]; omega) (by have := HLN.out; omega) (by rw [HY.out.2.1, HY.out.2.2.1, list_len]; omega) (by rw [N2.out.2.2]; omega) (by rw [HY.out.1]; exact HFS.out.1) (by rw [N2.out.1]; exact HFS.out.2)) fr tn (by have := HFS.out.1; omega) (by have := HFS.out.2; omega))
    rw [← HY.out.1, ← N2.out.1] at C5
    have HNY := Lib.hid hne
    clear hO HW hne
    go_wp2_with fail
    refine C5.out.mono ?_
    rintro e w6 ⟨S', E, rfl, hR, hO⟩
    obtain ⟨rfl, rfl⟩ := two_ren HY.out.2.2.2 HNY.out (by rw [HY.out.1]; exact HN1.out) (by rw [N2.out.1]; exact HN2.out) hR
    rw [HLN.out.2] at hO
    obtain ⟨x4, hx4⟩ : ∃ x4 : FileG, x4 = { y1 with name := x2.name } := ⟨_, rfl⟩
    rw [← hx4] at hO
    have H4 : Hid (x4.name = tn.data.toList ∧ x4.bytes = a.data.toList ∧ x4.safe = a.size) := Lib.hid ⟨by rw [hx4]; exact N2.out.1, by rw [hx4]; exact HY.out.2.1, by rw [hx4]; exact HY.out.2.2.1⟩
    have R1 := read_any hO.dk fr (by unfold maxLen; have := HFS.out.1; omega)
    rw [readV_no (by rw [H4.out.1]; exact fun e => HXL.out e.symm)] at R1
    have R2 := read_any hO.dk tn (by unfold maxLen; have := HFS.out.2; omega)
    rw [readV_one H4.out.1, H4.out.2.1] at R2
    have R1' := Lib.hid R1
    have R2' : Hid (Calls Try.prog 21 #[.pointer (some ⟨b, 0, none⟩), .string tn] w6 fun e w' => e = .returned (.tuple #[.string a, .int .i64 0]) ∧ w6 = w') := Lib.hid R2
    have C6 := Lib.hid (own_crash_nil hO (one_ok (by omega) (by omega) (by omega) (by rw [H4.out.2.1, list_len]; omega) (by rw [H4.out.2.1, H4.out.2.2, list_len]; omega) (by rw [H4.out.1]; exact HFS.out.2)))
    clear C5 hR hO hx4 R1 R2
    go_wp2_with fail
    refine R1'.out.mono ?_
    rintro e w7 ⟨rfl, rfl⟩
    go_wp2_with fail
    refine R2'.out.mono ?_
    rintro e w7 ⟨rfl, rfl⟩
    clear R1' R2'
    go_wp2_with fail
    refine C6.out.mono ?_
    rintro e w7 ⟨rfl, fs', hk, hO⟩
    obtain ⟨x5, rfl, hk5⟩ := kept_one hk
    have H5 : Hid (x5.name = tn.data.toList ∧ x5.bytes = a.data.toList.take (a.size)) := Lib.hid ⟨by rw [hk5.nm]; exact H4.out.1, by
      rw [hk5.by_, H4.out.2.1, H4.out.2.2]
      exact keep_none _ _ (by rw [list_len]; omega)⟩
    have R3 := read_any hO.dk tn (by unfold maxLen; have := HFS.out.2; omega)
    rw [readV_one H5.out.1, H5.out.2, HV.out] at R3
    have R3' : Hid (Calls Try.prog 21 #[.pointer (some ⟨b, 0, none⟩), .string tn] w7 fun e w' => e = .returned (.tuple #[.string a, .int .i64 0]) ∧ w7 = w') := Lib.hid R3
    have hs5 : sumB [x5] ≤ 300 := by
      have : x5.bytes.length ≤ a.size := by rw [H5.out.2, List.length_take, list_len]; omega
      simp [sumB]
      omega
    have hsf : x5.safe ≤ x5.bytes.length := by
      rw [hk5.sf, hk5.by_, keepB_len]
      exact Nat.le_refl _
    have CM := Lib.hid (own_names hO (one_ok (by omega) (by omega) (by omega) (by simp [sumB] at hs5; omega) hsf (by rw [H5.out.1]; exact HFS.out.2)))
    clear C6 hk hk5 hO R3 hs5 hsf
    go_wp2_with fail
    refine R3'.out.mono ?_
    rintro e w8 ⟨rfl, rfl⟩
    clear R3'
    go_wp2_with fail
    refine CM.out.mono ?_
    rintro e w8 ⟨va, vc, rfl, hO⟩
    have HB := Lib.hid hO.bel
    clear CM hO
    go_wp2_with fail
    go_ret
    exact ⟨rfl, HB.out⟩
end Go.Proofs.Ytajcnendlcjeaaa
