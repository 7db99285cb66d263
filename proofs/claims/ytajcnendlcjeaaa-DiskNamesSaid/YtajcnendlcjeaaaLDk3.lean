/- The law DiskFull: as many files as may be, and one more not. Conditions: those written at each theorem. -/
import Derived.Test.YtajcnendlcjeaaaDkL
import Derived.Test.YtajcnendlcjeaaaLDk2
import Derived.Deep.LoopGhost
import Derived.OpenShut
namespace Go.Proofs.Ytajcnendlcjeaaa
open Go.RowKit Go.Maps Go.WideShapes
set_option linter.unusedVariables false
set_option linter.unusedSimpArgs false

/-- The name of file j. -/
def nm (j : Nat) : List UInt8 := [102, UInt8.ofNat (97 + j / 26), UInt8.ofNat (97 + j % 26)]
theorem nm_inj {i j : Nat} (hi : i < 210) (hj : j < 210) (h : nm i = nm j) : i = j := by
  unfold nm at h
  simp only [List.cons.injEq, and_true, true_and] at h
  have h1 := congrArg UInt8.toNat h.1
  have h2 := congrArg UInt8.toNat h.2
  simp only [UInt8.toNat_ofNat'] at h1 h2
  omega
theorem look_no {l : List FileG} {k : List UInt8} (h : ∀ f ∈ l, f.name ≠ k) : look l k = none := by
  unfold look
  rw [List.find?_eq_none]
  intro f hf
  simpa using h f hf
structure Fl (i : Nat) (fs : List FileG) : Prop where
  len : fs.length = i
  of : ∀ f ∈ fs, (∃ j, j < i ∧ f.name = nm j) ∧ f.bytes.length = 1 ∧ f.safe = 0
  has : 0 < i → ∃ f ∈ fs, f.name = nm 0
theorem Fl.none {i k : Nat} {fs : List FileG} (h : Fl i fs) (hi : i ≤ k) (hk : k < 210) : look fs (nm k) = none :=
  look_no fun f hf e => by
    obtain ⟨⟨j, hj, hn⟩, _⟩ := h.of f hf
    have := nm_inj (by omega) hk (hn.symm.trans e)
    omega
theorem Fl.put {i : Nat} {fs : List FileG} (h : Fl i fs) (hi : i < 200) {x : FileG} (h1 : x.name = nm i) (h2 : x.bytes.length = 1) (h3 : x.safe = 0) : Fl (i + 1) (putF fs x) := by
  have hn : delF fs x.name = fs := delF_none (by rw [h1]; exact h.none (Nat.le_refl _) (by omega))
  refine ⟨?_, fun f hf => ?_, fun _ => ?_⟩
  · unfold putF; rw [hn, insF_length, h.len]
  · rcases mem_putF.1 hf with rfl | ⟨hf, _⟩
    · exact ⟨⟨i, by omega, h1⟩, h2, h3⟩
    · obtain ⟨⟨j, hj, hn'⟩, h4, h5⟩ := h.of f hf
      exact ⟨⟨j, by omega, hn'⟩, h4, h5⟩
  · by_cases h0 : i = 0
    · subst h0; exact ⟨x, mem_putF.2 (.inl rfl), h1⟩
    · obtain ⟨f, hf, hn'⟩ := h.has (by omega)
      refine ⟨f, mem_putF.2 (.inr ⟨hf, fun e => ?_⟩), hn'⟩
      have := nm_inj (by omega) (by omega) (hn'.symm.trans (e.trans h1))
      omega
/-- The disk behind so many operations. -/
def fl (i c : Nat) (fs : List FileG) : DS := st 1000 i i c fs
theorem nm_ok (j : Nat) : nameOk (nm j) = true := rfl
theorem fl_ok {i c : Nat} {fs : List FileG} (h : Fl i fs) (hi : i ≤ 200) (hc : c ≤ 300) : SOk (fl i c fs) :=
  st_ok (by omega) (by omega) (by decide) (by omega) (by omega) (by omega) (by omega) (by rw [h.len]; exact hi)
    (fun f hf => by rw [(h.of f hf).2.1]; decide) (fun f hf => by rw [(h.of f hf).2.1, (h.of f hf).2.2]; decide) (fun f hf => by obtain ⟨⟨j, _, hn⟩, _⟩ := h.of f hf; rw [hn]; show 3 ≤ 24; omega)
theorem fl_more {i : Nat} {fs : List FileG} {S' : DS} {E : Int} (h : Fl i fs) (hi : i < 200) (hR : AppendR (fl i i fs) (nm i) [120] S' E) : E = 0 ∧ ∃ fs', Fl (i + 1) fs' ∧ S' = fl (i + 1) (i + 1) fs' := by
  obtain ⟨e, x, h1, h2, h3, rfl⟩ := st_new hR (nm_ok i) (h.none (Nat.le_refl _) (by omega)) (by rw [h.len]; exact hi) (by decide) (by show ((1 : Nat) : Int) ≤ _; omega)
  exact ⟨e, _, h.put hi h1 (by rw [h2]; rfl) h3, rfl⟩
theorem fl_full {c k : Nat} {fs : List FileG} {S' : DS} {E : Int} (h : Fl 200 fs) (hk : 200 ≤ k) (hk2 : k < 210) (hR : AppendR (fl 200 c fs) (nm k) [120] S' E) : E = 4 ∧ S' = fl 200 (c + 1) fs := by
  unfold AppendR at hR
  have e0 : beginS (fl 200 c fs) [nm k] = (fl 200 (c + 1) fs, 0) := by unfold fl; rw [st_begin]; rfl
  have e1 : look (fl 200 c fs).fs (nm k) = none := h.none hk hk2
  rw [e0, e1, if_neg (by simp), if_pos ⟨rfl, by show 200 ≤ fs.length; rw [h.len]; exact Nat.le_refl _⟩] at hR
  exact ⟨hR.2, hR.1⟩
theorem fl_del {c : Nat} {fs : List FileG} {S' : DS} {E : Int} (h : Fl 200 fs) (hR : DelR (fl 200 c fs) (nm 0) S' E) : E = 0 ∧ S' = st 1000 199 200 ((c : Int) + 1) (delF fs (nm 0)) := by
  unfold DelR at hR
  have e0 : beginS (fl 200 c fs) [nm 0] = (fl 200 (c + 1) fs, 0) := by unfold fl; rw [st_begin]; rfl
  obtain ⟨f, hf, hn⟩ := h.has (by omega)
  obtain ⟨g, hg⟩ : ∃ g, look fs (nm 0) = some g := by
    cases hl : look fs (nm 0) with
    | some g => exact ⟨g, rfl⟩
    | none => exact absurd hn (look_none hl f hf)
  have e1 : look (fl 200 c fs).fs (nm 0) = some g := hg
  rw [e0, if_neg (by simp), e1, if_neg (by simp)] at hR
  refine ⟨hR.2, ?_⟩
  rw [hR.1]
  unfold dropS
  rw [show (fl 200 (c + 1) fs).fs = fs from rfl, hg]
  have := (h.of g (look_mem hg).1).2.1
  dsimp only
  rw [this]
  rfl
theorem del_len {fs : List FileG} (h : Fl 200 fs) : (delF fs (nm 0)).length < 200 := by
  obtain ⟨f, hf, hn⟩ := h.has (by omega)
  have : (delF fs (nm 0)).length < fs.length := by
    unfold delF
    exact List.length_filter_lt_length_iff_exists.2 ⟨f, hf, by simp [hn]⟩
  rw [h.len] at this
  exact this
theorem name_run (w : World) (j : Nat) (A1 A2 : Int) (h1 : A1 = ((UInt8.ofNat (97 + j / 26)).toNat : Int)) (h2 : A2 = ((UInt8.ofNat (97 + j % 26)).toNat : Int)) :
    (convert 60 9 (.slice (some ⟨w.heap.size, 0, none⟩) 3 3)).run Try.prog (w.alloc (.cells #[.int .u8 102, .int .u8 A1, .int .u8 A2] 5)) = .ok (.string ⟨(nm j).toArray⟩) (w.alloc (.cells #[.int .u8 102, .int .u8 A1, .int .u8 A2] 5)) := by
  refine run_convert_bytes_back (P := Try.prog) _ 60 9 5 ⟨w.heap.size, 0, none⟩ 3 (nm j) Try.underlying60 Try.underlying5 Try.underlying9 (fun i hi => ?_)
  have hb := heap_alloc_new w (.cells #[.int .u8 102, .int .u8 A1, .int .u8 A2] 5)
  have hi' : i < 3 := hi
  match i, hi' with
  | 0, _ => exact (cell_blk hb 0)
  | 1, _ => rw [h1] at hb; rw [h1]; exact (cell_blk hb 1)
  | 2, _ => rw [h2] at hb; rw [h2]; exact (cell_blk hb 2)
theorem own_del {w0 w : World} {b m : Nat} {S : DS} (h : Own w0 b m S w) (hg : SOk S) (name : ByteArray) (hn : name.size ≤ 1000) :
    Calls Try.prog 28 #[.pointer (some ⟨b, 0, none⟩), .string name] w fun e w' => ∃ S' E, e = .returned (.int .i64 E) ∧ DelR S name.data.toList S' E ∧ Own w0 b m S' w' :=
  (delete_any h.dk hg name (by unfold maxLen; omega)).mono fun e w' ⟨S', E, he, hR, hD, hO⟩ => ⟨S', E, he, hR, h.only hD hO⟩
theorem own_names {w0 w : World} {b m : Nat} {S : DS} (h : Own w0 b m S w) (hg : SOk S) :
    Calls Try.prog 24 #[.pointer (some ⟨b, 0, none⟩)] w fun e w' => ∃ a c, e = .returned (.slice a S.fs.length c) ∧ Own w0 b m S w' :=
  (names_any h.dk (by have := hg.n1; omega)).mono fun e w' ⟨a, c, he, hr, hB⟩ => ⟨a, c, he, h.under hB⟩
set_option maxRecDepth 100000 in
set_option maxHeartbeats 4000000 in
theorem diskFull_walk (ov : Int) (hov : (Lit.int .u8 ov).wf = true) (W : World) :
    Calls Try.prog 7 #[.int .u8 ov] W fun e W' => e = .returned (.bool true) ∧ Below W.heap.size W W' := by
  have CA := Lib.hid awake_any
  have bo := bounds_u8 hov
  obtain ⟨q, hq⟩ : ∃ q : Nat, q = (ov % 5).toNat := ⟨_, rfl⟩
  have q1 : ov % 5 = (q : Int) := by omega
  have q2 : ov.tmod 5 = (q : Int) := by rw [Int.tmod_eq_emod_of_nonneg bo.1]; exact q1
  have qb : q < 5 := by omega
  obtain ⟨N, hN⟩ : ∃ N : Nat, 200 + q = N := ⟨_, rfl⟩
  have hN2 : (200 : Int) + (q : Int) = (N : Int) := by omega
  have wq : IntKind.i64.wrap (q : Int) = (q : Int) := by rw [IntKind.wrap_i64]; omega
  have wN : IntKind.i64.wrap (N : Int) = (N : Int) := by rw [IntKind.wrap_i64]; omega
  have uq : IntKind.u8.wrap (q : Int) = (q : Int) := by rw [IntKind.wrap_u8]; omega
  have CN := Lib.hid (own_new (w0 := W) (w := W) 1000 (by omega) (by omega) (Below.refl _ _))
  have HN : Hid (200 ≤ N ∧ N < 205) := Lib.hid (by omega)
  clear hq hov bo hN qb
  go_enter Try.func7, Try.ntmps7
  go_wp2_with fail
  refine CN.out.mono ?_
  rintro e w1 ⟨b, m, rfl, hO⟩
  have O1 := Lib.hid hO
  clear CN hO
  go_wp2_with fail
  go_loopw [4] (fun i wr => ∃ j : Nat, j ≤ N ∧ i = .int .i64 j ∧ Hid (∃ fs, Fl (min j 200) fs ∧ Own W b m (fl (min j 200) j fs) wr)) (fun i _ => N - (intOf i).toNat)
  case atStart => exact ⟨0, by omega, rfl, Lib.hid ⟨[], ⟨rfl, (fun f hf => by cases hf), (fun h => absurd h (by omega))⟩, O1.out⟩⟩
  case round =>
    obtain ⟨j, hj, rfl, HR⟩ := hrel
    obtain ⟨fs, hfs, hO⟩ := HR.out
    have HO := Lib.hid hO
    have HFS := Lib.hid hfs
    clear O1 hO hfs HR
    have hNN := HN.out
    by_cases hlt : j < N
    · have hji : (j : Int) < (N : Int) := by omega
      have hj0 : (0 : Int) ≤ (j : Int) := by omega
      obtain ⟨D1, hD1⟩ : ∃ D1 : Int, (j : Int) / 26 = D1 := ⟨_, rfl⟩
      obtain ⟨D2, hD2⟩ : ∃ D2 : Int, (j : Int) % 26 = D2 := ⟨_, rfl⟩
      have hT1 : (j : Int).tdiv 26 = D1 := by rw [Int.tdiv_eq_ediv_of_nonneg hj0]; exact hD1
      have hT2 : (j : Int).tmod 26 = D2 := by rw [Int.tmod_eq_emod_of_nonneg hj0]; exact hD2
      obtain ⟨A1, hA1⟩ : ∃ A1 : Int, (97 : Int) + D1 = A1 := ⟨_, rfl⟩
      obtain ⟨A2, hA2⟩ : ∃ A2 : Int, (97 : Int) + D2 = A2 := ⟨_, rfl⟩
      have wD1 : IntKind.i64.wrap D1 = D1 := by rw [IntKind.wrap_i64]; omega
      have wD2 : IntKind.i64.wrap D2 = D2 := by rw [IntKind.wrap_i64]; omega
      have wA1 : IntKind.i64.wrap A1 = A1 := by rw [IntKind.wrap_i64]; omega
      have wA2 : IntKind.i64.wrap A2 = A2 := by rw [IntKind.wrap_i64]; omega
      have uA1 : IntKind.u8.wrap A1 = A1 := by rw [IntKind.wrap_u8]; omega
      have uA2 : IntKind.u8.wrap A2 = A2 := by rw [IntKind.wrap_u8]; omega
      have hcv := name_run wr j A1 A2 (by rw [UInt8.toNat_ofNat']; omega) (by rw [UInt8.toNat_ofNat']; omega)
      have CP : Hid (Calls Try.prog 18 #[.pointer (some ⟨b, 0, none⟩), .string ⟨(nm j).toArray⟩, .string ⟨#[120]⟩] (wr.alloc (.cells #[.int .u8 102, .int .u8 A1, .int .u8 A2] 5)) fun e w' => e = .returned (.int .i64 (if j < 200 then 0 else 4)) ∧ ∃ fs', Fl (min (j + 1) 200) fs' ∧ Own W b m (fl (min (j + 1) 200) (j + 1) fs') w') := Lib.hid (by
        have hO := HO.out.under ((Below.refl wr.heap.size wr).alloc (Nat.le_refl _) (.cells #[.int .u8 102, .int .u8 A1, .int .u8 A2] 5))
        refine (own_app hO (fl_ok HFS.out (by omega) (by omega)) ⟨(nm j).toArray⟩ ⟨#[120]⟩ (by show 3 ≤ 1000; omega) (by decide)).mono ?_
        rintro e w' ⟨S', E, rfl, hR, hO'⟩
        by_cases h2 : j < 200
        · have e1 : min j 200 = j := by omega
          have e2 : min (j + 1) 200 = j + 1 := by omega
          have hF := HFS.out
          rw [e1] at hR hF
          obtain ⟨rfl, fs', hf', rfl⟩ := fl_more hF h2 hR
          rw [if_pos h2, e2]
          exact ⟨rfl, fs', hf', hO'⟩
        · have e1 : min j 200 = 200 := by omega
          have e2 : min (j + 1) 200 = 200 := by omega
          have hF := HFS.out
          rw [e1] at hR hF
          obtain ⟨rfl, rfl⟩ := fl_full hF (by omega) (by omega) hR
          rw [if_neg h2, e2]
          exact ⟨rfl, _, hF, hO'⟩)
      clear HO HFS hNN
      by_cases h2 : (j : Int) < 200
      · have h2' : j < 200 := by omega
        rw [if_pos h2'] at CP
        go_wp2_with fail
        refine CP.out.mono ?_
        rintro e w2 ⟨rfl, hF⟩
        have HF := Lib.hid hF
        clear CP hF
        go_wp2_with fail
        go_roundw
        case rel => exact ⟨j + 1, by omega, by go_num, HF⟩
        case measure => simp [intOf]; omega
      · have h2' : ¬ j < 200 := by omega
        have h3 : (200 : Int) ≤ (j : Int) := by omega
        rw [if_neg h2'] at CP
        go_wp2_with fail
        refine CP.out.mono ?_
        rintro e w2 ⟨rfl, hF⟩
        have HF := Lib.hid hF
        clear CP hF
        go_wp2_with fail
        go_roundw
        case rel => exact ⟨j + 1, by omega, by go_num, HF⟩
        case measure => simp [intOf]; omega
    · obtain rfl : j = N := by omega
      have e1 : min j 200 = 200 := by omega
      have hO := HO.out
      have hF := HFS.out
      rw [e1] at hO hF
      have CM := Lib.hid (own_names hO (fl_ok hF (by omega) (by omega)))
      rw [show (fl 200 j fs).fs.length = 200 from hF.len] at CM
      have HF := Lib.hid hF
      clear HO HFS hO hF hNN
      go_wp2_with fail
      refine CM.out.mono ?_
      rintro e w2 ⟨a, c, rfl, hO⟩
      have CU : Hid (Calls Try.prog 27 #[.pointer (some ⟨b, 0, none⟩)] w2 fun e w' => e = .returned (.int .i64 200) ∧ w2 = w') := Lib.hid (used_any hO.dk)
      have CD := Lib.hid (own_del hO (fl_ok HF.out (by omega) (by have := HN.out; omega)) ⟨#[102, 97, 97]⟩ (by decide))
      clear CM hO
      go_wp2_with fail
      refine CU.out.mono ?_
      rintro e w3 ⟨rfl, rfl⟩
      go_wp2_with fail
      refine CD.out.mono ?_
      rintro e w4 ⟨S', E, rfl, hR, hO⟩
      obtain ⟨rfl, rfl⟩ := fl_del HF.out hR
      have hdl := del_len HF.out
      have hof : ∀ f ∈ delF fs (nm 0), (∃ j, j < 200 ∧ f.name = nm j) ∧ f.bytes.length = 1 ∧ f.safe = 0 := fun f hf => HF.out.of f (mem_delF.1 hf).1
      have CP := Lib.hid (own_app hO (st_ok (by omega) (by omega) (by decide) (by omega) (by omega) (by omega) (by have := HN.out; omega) (by omega) (fun f hf => by rw [(hof f hf).2.1]; omega) (fun f hf => by rw [(hof f hf).2.1, (hof f hf).2.2]; omega) (fun f hf => by obtain ⟨⟨k, _, hn⟩, _⟩ := hof f hf; rw [hn]; show 3 ≤ 24; omega)) ⟨#[110, 101, 119]⟩ ⟨#[120]⟩ (by decide) (by decide))
      have HX : Hid ((delF fs (nm 0)).length < 200 ∧ look (delF fs (nm 0)) [110, 101, 119] = none) := Lib.hid ⟨hdl, look_no fun f hf e => by
        obtain ⟨⟨k, _, hn⟩, _⟩ := hof f hf
        rw [e] at hn
        have := congrArg List.head? hn
        simp [nm] at this⟩
      clear CU CD hR hO hdl hof
      go_wp2_with fail
      refine CP.out.mono ?_
      rintro e w5 ⟨S', E, rfl, hR, hO⟩
      obtain ⟨rfl, x, _, _, _, rfl⟩ := st_new hR (by decide) HX.out.2 HX.out.1 (by decide) (by decide)
      have HB := Lib.hid hO.bel
      clear CP hR hO
      go_wp2_with fail
      refine (CA.out _).mono ?_
      rintro e w6 ⟨rfl, hB⟩
      have HB6 := Lib.hid (below_mono HB.out hB (Nat.le_refl _))
      clear hB
      go_wp2_with fail
      go_ret
      exact ⟨rfl, HB6.out⟩
end Go.Proofs.Ytajcnendlcjeaaa
