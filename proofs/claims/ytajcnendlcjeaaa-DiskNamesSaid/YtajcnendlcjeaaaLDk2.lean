/- The law DiskArmed: an armed disk does just as many operations more, and nothing then, till a crash. Conditions: those written at each theorem. -/
import Derived.Test.YtajcnendlcjeaaaDkR
import Derived.Deep.LoopGhost
import Derived.OpenShut
namespace Go.Proofs.Ytajcnendlcjeaaa
open Go.RowKit Go.Maps Go.WideShapes
set_option linter.unusedVariables false
set_option linter.unusedSimpArgs false

/-- An armed disk of 5000 bytes behind i operations, of k. -/
def ar (off : Bool) (c i k : Nat) (fs : List FileG) : DS := ⟨5000, i, i, c, off, true, ((k - i : Nat) : Int), fs⟩
/-- The file f, with as many bytes as were appended. -/
def Ones (i s : Nat) (fs : List FileG) : Prop := fs = [] ∧ i = 0 ∨ ∃ x : FileG, fs = [x] ∧ x.name = [102] ∧ x.bytes.length = i ∧ x.safe = s
theorem Ones.all {i s : Nat} {fs : List FileG} (h : Ones i s fs) : fs.length ≤ 1 ∧ ∀ f ∈ fs, f.bytes.length = i ∧ f.safe = s ∧ f.name = [102] := by
  rcases h with ⟨rfl, _⟩ | ⟨x, rfl, h1, h2, h3⟩
  · exact ⟨by simp, fun f hf => by cases hf⟩
  · exact ⟨by simp, fun f hf => by simp at hf; subst hf; exact ⟨h2, h3, h1⟩⟩
theorem ar_ok {off : Bool} {c i k s : Nat} {fs : List FileG} (h : Ones i s fs) (hs : s ≤ i) (hi : i ≤ 20) (hk : k ≤ 20) (hc : c ≤ 100) : SOk (ar off c i k fs) := by
  obtain ⟨h1, h2⟩ := h.all
  refine ⟨?_, ?_, ?_, ?_, ?_, ?_, ?_, ?_, ?_, ?_, fun f hf => ?_, fun f hf => ?_, fun f hf => ?_⟩ <;> (try (simp only [ar]; omega))
  · rw [(h2 f hf).1]; omega
  · rw [(h2 f hf).1, (h2 f hf).2.1]; omega
  · rw [(h2 f hf).2.2]; decide
/-- One byte more. -/
theorem ones_more {S S' : DS} {i s : Nat} {E : Int} (ho : Ones i s S.fs) (hi : i ≤ 20) (hr : S.room - S.used ≥ 1) (hb : (beginS S [[102]]).2 = 0) (h : AppendR S [102] [120] S' E) :
    E = 0 ∧ ∃ fs' s', Ones (i + 1) s' fs' ∧ (s' = s ∨ s' = 0) ∧ S' = { (beginS S [[102]]).1 with used := S.used + 1, written := S.written + 1, fs := fs' } := by
  unfold AppendR at h
  rw [if_neg (by rw [hb]; simp)] at h
  rcases ho with ⟨hf, rfl⟩ | ⟨f, hf, h1, h2, h3⟩
  · have hl : look S.fs [102] = none := by rw [hf]; rfl
    rw [hl, hf, if_neg (by rintro ⟨_, h'⟩; simp at h'), if_neg (by simp), if_neg (by simp; omega)] at h
    obtain ⟨h1, x, h2, h3, h4, h5⟩ := h
    refine ⟨h1, [x], 0, .inr ⟨x, rfl, h2, by rw [h3]; rfl, by rw [h4]; rfl⟩, .inr rfl, ?_⟩
    rw [h5, put_nil]; rfl
  · have hl : look S.fs [102] = some f := by rw [hf]; exact look_one h1
    rw [hl, hf, if_neg (by rintro ⟨h', _⟩; cases h'), if_neg (by simp only [Option.map_some, Option.getD_some, List.length_cons, List.length_nil]; omega), if_neg (by simp; omega)] at h
    obtain ⟨e1, x, e2, e3, e4, e5⟩ := h
    refine ⟨e1, [x], s, .inr ⟨x, rfl, e2, by rw [e3]; simp [h2], by rw [e4]; exact h3⟩, .inl rfl, ?_⟩
    rw [e5, put_one (by rw [h1, e2])]; rfl
theorem nameF2 : ([[102]] : List (List UInt8)).all nameOk = true := by decide
theorem ar_begin {c i k : Nat} {fs : List FileG} (h : i < k) : beginS (ar false c i k fs) [[102]] = ({ ar false c i k fs with calls := (c : Int) + 1, left := ((k - i : Nat) : Int) - 1 }, 0) := by
  unfold beginS ar
  rw [if_neg (by simp), if_neg (by simp; omega), nameF2]
  rfl
theorem ar_step {i k : Nat} {fs : List FileG} {S' : DS} {E : Int} (ho : Ones i 0 fs) (h1 : i < k) (hk : k ≤ 20) (h : AppendR (ar false i i k fs) [102] [120] S' E) :
    E = 0 ∧ ∃ fs', Ones (i + 1) 0 fs' ∧ S' = ar false (i + 1) (i + 1) k fs' := by
  have hb := ar_begin (c := i) (fs := fs) h1
  obtain ⟨e, fs', s', e1, e2, e3⟩ := ones_more (S := ar false i i k fs) (s := 0) ho (by omega) (by show (5000 : Int) - (i : Int) ≥ 1; omega) (by rw [hb]) h
  have hs' : s' = 0 := by rcases e2 with e2 | e2 <;> exact e2
  subst hs'
  refine ⟨e, fs', e1, ?_⟩
  rw [e3, hb]
  unfold ar
  have : ((k - i : Nat) : Int) - 1 = ((k - (i + 1) : Nat) : Int) := by omega
  simp only [this]
  rfl
theorem ar_stop {k : Nat} {fs : List FileG} {S' : DS} {E : Int} (h : AppendR (ar false k k k fs) [102] [120] S' E) : E = 6 ∧ S' = ar true (k + 1) k k fs := by
  have hb : beginS (ar false k k k fs) [[102]] = (ar true (k + 1) k k fs, 6) := by
    unfold beginS ar
    rw [if_neg (by simp), if_pos (by simp)]
    rfl
  unfold AppendR at h
  rw [hb, if_pos (by simp)] at h
  exact ⟨h.2, h.1⟩
theorem ar_crash {c k : Nat} {fs : List FileG} {S' : DS} (ho : Ones k 0 fs) (hk : k ≤ 20) (h : CrashR (ar true c k k fs) [(1000, -1)] S') : ∃ fs', Ones k k fs' ∧ S' = st 5000 k k c fs' := by
  obtain ⟨⟨h1, h2⟩, h3⟩ := h
  have hO : Ones k k S'.fs ∧ sumB S'.fs = k := by
    rcases ho with ⟨hf, rfl⟩ | ⟨f, hf, e1, e2, e3⟩
    · have : S'.fs = [] := List.length_eq_zero_iff.1 (by rw [h1]; show fs.length = 0; rw [hf]; rfl)
      rw [this]
      exact ⟨.inl ⟨rfl, rfl⟩, rfl⟩
    · obtain ⟨x, hx⟩ : ∃ x, S'.fs = [x] := List.length_eq_one_iff.1 (by rw [h1]; show fs.length = 1; rw [hf]; rfl)
      have hK := h2 0 f x (by show fs[0]? = _; rw [hf]; rfl) (by rw [hx]; rfl)
      have hkn : keptN f.bytes f.safe (keepAt [((1000 : Int), (-1 : Int))] 0).1 = k := by
        show keptN f.bytes f.safe 1000 = k
        unfold keptN
        rw [e2, e3]
        omega
      have hl : x.bytes.length = k := by rw [hK.by_, keepB_len]; exact hkn
      rw [hx]
      refine ⟨.inr ⟨x, rfl, by rw [hK.nm]; exact e1, hl, by rw [hK.sf]; exact hkn⟩, by simp [sumB, hl]⟩
  refine ⟨S'.fs, hO.1, ?_⟩
  rw [h3]
  unfold st ar
  dsimp only
  rw [hO.2, Nat.sub_self]
  rfl
/-- The operations of a disk of the run's own, whatever stands on it. -/
theorem own_app {w0 w : World} {b m : Nat} {S : DS} (h : Own w0 b m S w) (hg : SOk S) (name data : ByteArray) (hn : name.size ≤ 1000) (hd : data.size ≤ 1000) :
    Calls Try.prog 18 #[.pointer (some ⟨b, 0, none⟩), .string name, .string data] w fun e w' => ∃ S' E, e = .returned (.int .i64 E) ∧ AppendR S name.data.toList data.data.toList S' E ∧ Own w0 b m S' w' :=
  (append_any h.dk hg h.bel.size name data (by unfold maxLen; omega) (by unfold maxLen; omega)).mono fun e w' ⟨S', E, he, hR, hD, hO, _⟩ => ⟨S', E, he, hR, h.only hD hO⟩
theorem own_arm {w0 w : World} {b m : Nat} {S : DS} (h : Own w0 b m S w) (n : Int) :
    Calls Try.prog 25 #[.pointer (some ⟨b, 0, none⟩), .int .i64 n] w fun e w' => e = .returned (.tuple #[]) ∧ Own w0 b m { S with armed := true, left := max n 0 } w' :=
  (arm_any h.dk n).mono fun e w' ⟨he, hD, hO⟩ => ⟨he, h.only hD (hO.mono fun x hx => by simp at hx; subst hx; simp)⟩
theorem own_aoff {w0 w : World} {b m : Nat} {S : DS} (h : Own w0 b m S w) (ho : S.off = true) (n d : ByteArray) :
    Calls Try.prog 18 #[.pointer (some ⟨b, 0, none⟩), .string n, .string d] w fun e w' => e = .returned (.int .i64 6) ∧ Own w0 b m S w' :=
  (append_off h.dk ho n d).mono fun e w' ⟨he, hD, hO⟩ => ⟨he, h.only hD (hO.mono fun x hx => by simp at hx; subst hx; simp)⟩
theorem own_roff {w0 w : World} {b m : Nat} {S : DS} (h : Own w0 b m S w) (ho : S.off = true) (n d : ByteArray) :
    Calls Try.prog 23 #[.pointer (some ⟨b, 0, none⟩), .string n, .string d] w fun e w' => e = .returned (.int .i64 6) ∧ Own w0 b m S w' :=
  (rename_off h.dk ho n d).mono fun e w' ⟨he, hD, hO⟩ => ⟨he, h.only hD (hO.mono fun x hx => by simp at hx; subst hx; simp)⟩
theorem own_crashG {w0 w : World} {b m : Nat} {S : DS} (h : Own w0 b m S w) (hg : SOk S) (K Z : Int) (hK : -9223372036854775808 ≤ K ∧ K ≤ 9223372036854775807) :
    Calls Try.prog 20 #[.pointer (some ⟨b, 0, none⟩), .slice (some ⟨w.heap.size, 0, none⟩) 1 1] (w.alloc (.cells #[.int .i64 K, .int .i64 Z] 47)) fun e w' => e = .returned (.tuple #[]) ∧ ∃ S', CrashR S [(K, Z)] S' ∧ Own w0 b m S' w' := by
  have h1 := h.under ((Below.refl w.heap.size w).alloc (Nat.le_refl _) (.cells #[.int .i64 K, .int .i64 Z] 47))
  refine (crash_any h1.dk hg (some ⟨w.heap.size, 0, none⟩) 1 [(K, Z)] (by simp) (by unfold maxLen; omega) (KAt.one w K Z) (fun k hk => by simp at hk; subst hk; exact hK) (fun a e => by
    cases e
    exact ⟨by simp, foot_lt h.dk⟩)).mono fun e w' ⟨he, S', hR, hD, hO, _⟩ => ?_
  exact ⟨he, S', hR, h1.only hD hO⟩
set_option maxRecDepth 100000 in
set_option maxHeartbeats 4000000 in
theorem diskArmed_walk (n mo : Int) (hn : (Lit.int .u8 n).wf = true) (hm : (Lit.int .u8 mo).wf = true) (W : World) :
    Calls Try.prog 6 #[.int .u8 n, .int .u8 mo] W fun e W' => e = .returned (.bool true) ∧ Below W.heap.size W W' := by
  have CA := Lib.hid awake_any
  have bn := bounds_u8 hn
  have bm := bounds_u8 hm
  obtain ⟨k, hk⟩ : ∃ k : Nat, k = (n % 20).toNat := ⟨_, rfl⟩
  obtain ⟨q, hq⟩ : ∃ q : Nat, q = (mo % 5).toNat := ⟨_, rfl⟩
  have k1 : n % 20 = (k : Int) := by omega
  have k2 : n.tmod 20 = (k : Int) := by rw [Int.tmod_eq_emod_of_nonneg bn.1]; exact k1
  have q1 : mo % 5 = (q : Int) := by omega
  have q2 : mo.tmod 5 = (q : Int) := by rw [Int.tmod_eq_emod_of_nonneg bm.1]; exact q1
  have kb : k < 20 := by omega
  have qb : q < 5 := by omega
  have wk : IntKind.i64.wrap (k : Int) = (k : Int) := by rw [IntKind.wrap_i64]; omega
  have wq : IntKind.i64.wrap (q : Int) = (q : Int) := by rw [IntKind.wrap_i64]; omega
  have uk : IntKind.u8.wrap (k : Int) = (k : Int) := by rw [IntKind.wrap_u8]; omega
  have uq : IntKind.u8.wrap (q : Int) = (q : Int) := by rw [IntKind.wrap_u8]; omega
  have CN := Lib.hid (own_new (w0 := W) (w := W) 5000 (by omega) (by omega) (Below.refl _ _))
  clear hk hq hn hm bn bm
  go_enter Try.func6, Try.ntmps6
  go_wp2_with fail
  refine CN.out.mono ?_
  rintro e w1 ⟨b, m, rfl, hO⟩
  have O1 := Lib.hid hO
  clear CN hO
  go_wp2_with fail
  refine (CA.out _).mono ?_
  rintro e w2 ⟨rfl, hB2⟩
  have C2 := Lib.hid (own_arm (O1.out.under hB2) (k : Int))
  clear hB2 O1 CA
  go_wp2_with fail
  refine C2.out.mono ?_
  rintro e w3 ⟨rfl, hO⟩
  have e3 : ({ st 5000 0 0 0 [] with armed := true, left := max (k : Int) 0 } : DS) = ar false 0 0 k [] := by
    unfold st ar
    simp only [Nat.sub_zero]
    rw [show max (k : Int) 0 = k by omega]
    rfl
  rw [e3] at hO
  have O3 := Lib.hid hO
  clear C2 hO e3
  go_wp2_with fail
  go_loopw [7] (fun i wr => ∃ j : Nat, j ≤ k ∧ i = .int .i64 j ∧ Hid (∃ fs, Ones j 0 fs ∧ Own W b m (ar false j j k fs) wr)) (fun i _ => k - (intOf i).toNat)
  case atStart => exact ⟨0, by omega, rfl, Lib.hid ⟨[], .inl ⟨rfl, rfl⟩, O3.out⟩⟩
  case round =>
    obtain ⟨j, hj, rfl, HR⟩ := hrel
    obtain ⟨fs, hfs, hO⟩ := HR.out
    have HO := Lib.hid hO
    have HFS := Lib.hid hfs
    clear O3 hO hfs HR
    by_cases hlt : j < k
    · have hji : (j : Int) < (k : Int) := by omega
      have CP := Lib.hid (own_app HO.out (ar_ok HFS.out (Nat.zero_le _) (by omega) (by omega) (by omega)) ⟨#[102]⟩ ⟨#[120]⟩ (by decide) (by decide))
      go_wp2_with fail
      refine CP.out.mono ?_
      rintro e w4 ⟨S', E, rfl, hR, hO⟩
      obtain ⟨rfl, fs', hf', rfl⟩ := ar_step HFS.out hlt (by omega) hR
      have HO4 := Lib.hid hO
      have HF4 := Lib.hid hf'
      have CO := Lib.hid (on_any hO.dk)
      clear CP hR hO hf' HO HFS
      go_wp2_with fail
      refine CO.out.mono ?_
      rintro e w5 ⟨rfl, rfl⟩
      go_wp2_with fail
      go_roundw
      case rel => exact ⟨j + 1, by omega, by go_num, Lib.hid ⟨fs', HF4.out, HO4.out⟩⟩
      case measure => simp [intOf]; omega
    · obtain rfl : j = k := by omega
      go_wp2_with fail
      go_loopw [8] (fun i wr => ∃ t : Nat, t ≤ q + 1 ∧ i = .int .i64 t ∧ Hid (∃ fs, Ones j 0 fs ∧ Own W b m (if t = 0 then ar false j j j fs else ar true (j + 1) j j fs) wr)) (fun i _ => q + 1 - (intOf i).toNat)
      case atStart => exact ⟨0, by omega, rfl, Lib.hid ⟨fs, HFS.out, HO.out⟩⟩
      case round =>
        obtain ⟨t, ht, rfl, HR⟩ := hrel
        obtain ⟨fs2, hfs, hO⟩ := HR.out
        have HO2 := Lib.hid hO
        have HF2 := Lib.hid hfs
        clear HO HFS hO hfs HR
        by_cases hlt : t ≤ q
        · have hji : (t : Int) ≤ (q : Int) := by omega
          have CP : Hid (Calls Try.prog 18 #[.pointer (some ⟨b, 0, none⟩), .string ⟨#[102]⟩, .string ⟨#[120]⟩] wr fun e w' => e = .returned (.int .i64 6) ∧ Own W b m (ar true (j + 1) j j fs2) w') := Lib.hid (by
            have hO := HO2.out
            by_cases h0 : t = 0
            · rw [if_pos h0] at hO
              refine (own_app hO (ar_ok HF2.out (Nat.zero_le _) (by omega) (by omega) (by omega)) ⟨#[102]⟩ ⟨#[120]⟩ (by decide) (by decide)).mono ?_
              rintro e w' ⟨S', E, rfl, hR, hO'⟩
              obtain ⟨rfl, rfl⟩ := ar_stop hR
              exact ⟨rfl, hO'⟩
            · rw [if_neg h0] at hO
              exact own_aoff hO rfl _ _)
          clear HO2
          go_wp2_with fail
          refine CP.out.mono ?_
          rintro e w4 ⟨rfl, hO⟩
          have CR := Lib.hid (own_roff hO rfl ⟨#[102]⟩ ⟨#[103]⟩)
          clear CP hO
          go_wp2_with fail
          refine CR.out.mono ?_
          rintro e w5 ⟨rfl, hO⟩
          have CO : Hid (Calls Try.prog 26 #[.pointer (some ⟨b, 0, none⟩)] w5 fun e w' => e = .returned (.bool false) ∧ w5 = w') := Lib.hid (on_any hO.dk)
          have CU : Hid (Calls Try.prog 27 #[.pointer (some ⟨b, 0, none⟩)] w5 fun e w' => e = .returned (.int .i64 (j : Int)) ∧ w5 = w') := Lib.hid (used_any hO.dk)
          have HO5 := Lib.hid hO
          clear CR hO
          go_wp2_with fail
          refine CO.out.mono ?_
          rintro e w6 ⟨rfl, rfl⟩
          go_wp2_with fail
          refine CU.out.mono ?_
          rintro e w7 ⟨rfl, rfl⟩
          go_wp2_with fail
          go_roundw
          case rel => exact ⟨t + 1, by omega, by go_num, Lib.hid ⟨fs2, HF2.out, by rw [if_neg (by omega)]; exact HO5.out⟩⟩
          case measure => simp [intOf]; omega
        · obtain rfl : t = q + 1 := by omega
          have hO := HO2.out
          rw [if_neg (by omega)] at hO
          have CC := Lib.hid (own_crashG hO (ar_ok HF2.out (Nat.zero_le _) (by omega) (by omega) (by omega)) 1000 (-1) (by omega))
          clear HO2 hO
          go_wp2_with fail
          refine CC.out.mono ?_
          rintro e w4 ⟨rfl, S', hR, hO⟩
          obtain ⟨fs3, hf3, rfl⟩ := ar_crash HF2.out (by omega) hR
          have CO : Hid (Calls Try.prog 26 #[.pointer (some ⟨b, 0, none⟩)] w4 fun e w' => e = .returned (.bool true) ∧ w4 = w') := Lib.hid (on_any hO.dk)
          obtain ⟨g1, g2⟩ := hf3.all
          have CP := Lib.hid (own_app hO (st_ok (by omega) (by omega) (by decide) (by omega) (by omega) (by omega) (by omega) (by omega) (fun f hf => by rw [(g2 f hf).1]; omega) (fun f hf => by rw [(g2 f hf).1, (g2 f hf).2.1]; omega) (fun f hf => by rw [(g2 f hf).2.2]; decide)) ⟨#[102]⟩ ⟨#[120]⟩ (by decide) (by decide))
          have HF3 := Lib.hid hf3
          clear CC hR hO g1 g2 hf3 HF2
          go_wp2_with fail
          refine CO.out.mono ?_
          rintro e w5 ⟨rfl, rfl⟩
          go_wp2_with fail
          refine CP.out.mono ?_
          rintro e w6 ⟨S', E, rfl, hR, hO⟩
          obtain ⟨rfl, fs4, s4, hf4, _, rfl⟩ := ones_more (i := j) (s := j) HF3.out (by omega) (by show (5000 : Int) - (j : Int) ≥ 1; omega) (by rw [st_begin]; rfl) hR
          have CU : Hid (Calls Try.prog 27 #[.pointer (some ⟨b, 0, none⟩)] w6 fun e w' => e = .returned (.int .i64 ((j : Int) + 1)) ∧ w6 = w') := Lib.hid (used_any hO.dk)
          have wj : IntKind.i64.wrap ((j : Int) + 1) = (j : Int) + 1 := by rw [IntKind.wrap_i64]; omega
          have HB := Lib.hid hO.bel
          clear CO CP hR hO HF3 hf4
          go_wp2_with fail
          refine CU.out.mono ?_
          rintro e w7 ⟨rfl, rfl⟩
          go_wp2_with fail
          go_ret
          exact ⟨rfl, HB.out⟩
end Go.Proofs.Ytajcnendlcjeaaa
