/- Layer 14: a merge over lists: its methods but New and start. Conditions: those written at each theorem. -/
import Derived.Test.YtkeeljjbdmmeiaaGreatDoorCuE
import Derived.Deep.LoopGhost
namespace Go.Proofs.YtkeeljjbdmmeiaaGreatDoor
open Go.RowKit Go.Maps Go.WideShapes
set_option linter.unusedVariables false
set_option linter.unusedSimpArgs false
def plP (p : Pl) : Value := .pointer (some ⟨p.b, 0, none⟩)
/-- A merge in memory. -/
structure MgAt (mb : Nat) (av : Value) (S : MS) (va : Option Addr) (vc : Nat) (w : World) : Prop where
  hp : HpAt mb av S.P S.H va vc w
  all : w.ownsRow 0 97 1 av S.P.length (S.P.map plP)
  ne : ∀ g, av.ownBlock = some g → g ∉ obL va
  inj : ∀ (i j : Nat) p q, S.P[i]? = some p → S.P[j]? = some q → p.b = q.b → i = j
  live : ∀ k, k < S.H.length → (S.P.getD (S.H.getD k 0) nil0).ok = true
  nd : S.H.Nodup
/-- The blocks that a merge may change. -/
abbrev mgF (mb : Nat) (S : MS) (va : Option Addr) : List Nat := mb :: (obL va ++ S.P.map (·.b))
theorem MgAt.next {mb : Nat} {av : Value} {S : MS} {va : Option Addr} {vc : Nat} {w w' : World} (h : MgAt mb av S va vc w) (k : Below w.heap.size w w') : MgAt mb av S va vc w' :=
  ⟨h.hp.next k, row_stay h.all fun g hg => k.block g (row_lt h.all hg), h.ne, h.inj, h.live, h.nd⟩
theorem mvalid_any {mb : Nat} {av : Value} {S : MS} {va : Option Addr} {vc : Nat} (w : World) (h : MgAt mb av S va vc w) (r : Bool) (hr : r = decide (S.H ≠ [])) : Calls Tryz.prog 16 #[.pointer (some ⟨mb, 0, none⟩)] w fun e w' => e = .returned (.bool r) ∧ w = w' := by
  have c1 := h.hp.c1
  obtain ⟨n, hn⟩ : ∃ n, n = S.H.length := ⟨_, rfl⟩
  have HR : Hid (r = decide (0 < n)) := Lib.hid (by
    rw [hr, hn]
    cases S.H with
    | nil => rfl
    | cons a t => simp)
  rw [← hn] at c1
  clear h hr hn
  rw [HR.out]
  go_enter Tryz.func16, Tryz.ntmps16
  go_wp2_with fail
  go_ret
  exact ⟨rfl, rfl⟩
theorem mvalid_nil (w : World) : Calls Tryz.prog 16 #[.pointer none] w fun e w' => e = .returned (.bool false) ∧ w = w' := by
  have hu : undef = Value.tuple #[] := rfl
  go_enter Tryz.func16, Tryz.ntmps16
  go_wp2_with fail
  go_ret
  exact ⟨rfl, rfl⟩
theorem merr_any {mb : Nat} {av : Value} {S : MS} {va : Option Addr} {vc : Nat} (w : World) (h : MgAt mb av S va vc w) : Calls Tryz.prog 17 #[.pointer (some ⟨mb, 0, none⟩)] w fun e w' => e = .returned (.int .i64 0) ∧ w = w' := by
  have c2 : w.cell? ⟨mb, 2, none⟩ = some (.int .i64 0) := cell_blk h.hp.hd 2
  clear h
  go_enter Tryz.func17, Tryz.ntmps17
  go_wp2_with fail
  go_ret
  exact ⟨rfl, rfl⟩
theorem merr_nil (w : World) : Calls Tryz.prog 17 #[.pointer none] w fun e w' => e = .returned (.int .i64 1) ∧ w = w' := by
  go_enter Tryz.func17, Tryz.ntmps17
  go_wp2_with fail
  go_ret
  exact ⟨rfl, rfl⟩
theorem note_any {i mb : Nat} {p : Pl} (w : World) (h : PlAt i p w) : Calls Tryz.prog 71 #[.pointer (some ⟨mb, 0, none⟩), .pointer (some ⟨p.b, 0, none⟩)] w fun e w' => e = .returned (.tuple #[]) ∧ w = w' := by
  have CS := Lib.hid (spoilt_any w h)
  obtain ⟨b, hb⟩ : ∃ b, b = p.b := ⟨_, rfl⟩
  rw [← hb] at CS ⊢
  clear h hb
  go_enter Tryz.func71, Tryz.ntmps71
  go_wp2_with (go_at_call 97; (with_reducible refine CS.out.mono ?_); rintro e w2 ⟨rfl, rfl⟩)
  go_end0
  exact ⟨rfl, rfl⟩
/-- What stands in front. -/
theorem MgAt.front {mb : Nat} {av : Value} {S : MS} {va : Option Addr} {vc : Nat} {w : World} (h : MgAt mb av S va vc w) (hne : S.H ≠ []) : ∃ g i p, va = some ⟨g, 0, none⟩ ∧ S.H.getD 0 0 = i ∧ S.P[i]? = some p ∧ S.P.getD i nil0 = p ∧ p.pos < p.ps.length ∧ PlAt i p w ∧ w.cell? ⟨g, 0, none⟩ = some (.pointer (some ⟨p.b, 0, none⟩)) ∧ 0 < S.H.length := by
  have hl : 0 < S.H.length := by
    rcases Nat.eq_zero_or_pos S.H.length with h0 | h0
    · exact absurd (List.length_eq_zero_iff.1 h0) hne
    · exact h0
  have h1 : S.H[0]? = some (S.H.getD 0 0) := by simp [List.getD, List.getElem?_eq_getElem hl]
  obtain ⟨g, p, e1, hp, hpd, hpa, pc, _⟩ := h.hp.ptr h1
  have hv := h.live 0 hl
  rw [hpd] at hv
  exact ⟨g, _, p, e1, rfl, hp, hpd, of_decide_eq_true hv, hpa, pc, hl⟩
set_option maxRecDepth 100000 in
theorem mpair_any {mb : Nat} {av : Value} {S : MS} {va : Option Addr} {vc : Nat} (w : World) (h : MgAt mb av S va vc w) (hne : S.H ≠ []) : Calls Tryz.prog 22 #[.pointer (some ⟨mb, 0, none⟩)] w fun e w' => e = .returned (.agg #[.string S.front.k, .string S.front.v]) ∧ Below w.heap.size w w' := by
  obtain ⟨g, i, p, rfl, hi, hp, hpd, hpv, hpa, pc, hl⟩ := h.front hne
  have hfr : S.front = p.kv := by unfold MS.front; rw [hi, hpd]
  rw [hfr]
  have GA : Hid (∀ W, w.alloc (.cells #[.string ⟨#[]⟩, .string ⟨#[]⟩] 46) = W → MgAt mb av S (some ⟨g, 0, none⟩) vc W ∧ PlAt i p W ∧ W.heap[w.heap.size]? = some (.cells #[.string ⟨#[]⟩, .string ⟨#[]⟩] 46 (0, 0)) ∧ Below w.heap.size w W) := Lib.hid (by
    rintro W rfl
    have hb := (Below.refl w.heap.size w).alloc (Nat.le_refl _) (.cells #[.string ⟨#[]⟩, .string ⟨#[]⟩] 46)
    exact ⟨h.next hb, hpa.next hb, heap_alloc_new w _, hb⟩)
  have HPC : Hid (∀ V, Below w.heap.size w V → V.cell? ⟨g, 0, none⟩ = some (.pointer (some ⟨p.b, 0, none⟩))) := Lib.hid fun V hV => (hV.cell (p := ⟨g, 0, none⟩) (row_lt h.hp.row rfl)).trans pc
  have CV := fun V hV => mvalid_any V (h.next hV) true (by simp [hne])
  have HCV : Hid (∀ V, Below w.heap.size w V → Calls Tryz.prog 16 #[.pointer (some ⟨mb, 0, none⟩)] V fun e w' => e = .returned (.bool true) ∧ V = w') := Lib.hid CV
  have HCP : Hid (∀ V, Below w.heap.size w V → Calls Tryz.prog 51 #[.pointer (some ⟨p.b, 0, none⟩)] V fun e w' => e = .returned (.agg #[.string p.kv.k, .string p.kv.v]) ∧ Below V.heap.size V w') := Lib.hid fun V hV => pair_any V (hpa.next hV) hpv
  obtain ⟨n, hn⟩ : ∃ n, n = S.H.length := ⟨_, rfl⟩
  have HC1 : Hid (∀ V, Below w.heap.size w V → V.cell? ⟨mb, 1, none⟩ = some (.slice (some ⟨g, 0, none⟩) n vc)) := Lib.hid fun V hV => by rw [hn]; exact (h.next hV).hp.c1
  have n1 : (0 : Int) < (n : Int) := by omega
  obtain ⟨pb, hpb⟩ : ∃ n, n = p.b := ⟨_, rfl⟩
  obtain ⟨pk, hpk⟩ : ∃ n, n = p.kv.k := ⟨_, rfl⟩
  obtain ⟨pw, hpw⟩ : ∃ n, n = p.kv.v := ⟨_, rfl⟩
  rw [← hpb] at HPC HCP
  rw [← hpk, ← hpw] at HCP ⊢
  obtain ⟨u, hu⟩ : ∃ u, u = w.heap.size := ⟨_, rfl⟩
  have HU := Lib.hid hu
  clear h hi hp hpd hpv hpa pc hl hfr CV hn hpb hpk hpw hne
  go_enter Tryz.func22, Tryz.ntmps22
  go_upto_region 1 with fail
  obtain ⟨W, hW⟩ : ∃ X, w.alloc (.cells #[.string ⟨#[]⟩, .string ⟨#[]⟩] 46) = X := ⟨_, rfl⟩
  obtain ⟨h1, h2, h3, h4⟩ := GA.out W hW
  rw [hW, ← hu]
  rw [← hu] at h3
  have HB := Lib.hid h4
  have c1 := HC1.out W h4
  have pc := HPC.out W h4
  have e0 : W.cell? ⟨u, 0, none⟩ = some (.string ⟨#[]⟩) := cell_blk h3 0
  have e1 : W.cell? ⟨u, 1, none⟩ = some (.string ⟨#[]⟩) := cell_blk h3 1
  have HW3 := Lib.hid h3
  clear hW h1 h2 h3 h4 GA hu
  go_wp2_with (first
    | (go_at_call 16; (with_reducible refine (HCV.out _ HB.out).mono ?_); rintro e w2 ⟨rfl, rfl⟩)
    | (go_at_call 51; (with_reducible refine (HCP.out _ HB.out).mono ?_); rintro e w3 ⟨rfl, hb⟩; have HB3 := Lib.hid (below_mono HB.out hb (Nat.le_refl _)); have HW4 := Lib.hid ((hb.block u (lt_of_heap HW3.out)).trans HW3.out); clear hb c1 pc e0 e1; have e0 : w3.cell? ⟨u, 0, none⟩ = some (.string ⟨#[]⟩) := cell_blk HW4.out 0; have e1 : w3.cell? ⟨u, 1, none⟩ = some (.string ⟨#[]⟩) := cell_blk HW4.out 1; have z0 := free_blk HW4.out 0; have z1 := free_blk HW4.out 1))
  have HS : Hid (∀ V, (w3.setCell ⟨u, 0, none⟩ (.string pk)).setCell ⟨u, 1, none⟩ (.string pw) = V → V.cell? ⟨u, 0, none⟩ = some (.string pk) ∧ V.cell? ⟨u, 1, none⟩ = some (.string pw) ∧ Below w.heap.size w V) := Lib.hid (by
    rintro V rfl
    have hb2 : ((w3.setCell ⟨u, 0, none⟩ (.string pk)).setCell ⟨u, 1, none⟩ (.string pw)).heap[u]? = some (.cells #[.string pk, .string pw] 46 (0, 0)) := set_same _ (set_same _ HW4.out)
    have hb3 := cell_blk hb2
    refine ⟨hb3 0, hb3 1, ?_⟩
    have := HU.out
    exact ((Only.refl [u] w3).set (a := ⟨u, 0, none⟩) (.inl (by simp)) (.string pk)) |>.set (a := ⟨u, 1, none⟩) (.inl (by simp)) (.string pw) |>.below (B := w.heap.size) (by simp; omega) HB3.out.size HB3.out)
  obtain ⟨V, hV⟩ : ∃ V, (w3.setCell ⟨u, 0, none⟩ (.string pk)).setCell ⟨u, 1, none⟩ (.string pw) = V := ⟨_, rfl⟩
  obtain ⟨r0, r1, r2⟩ := HS.out V hV
  rw [hV]
  exact bodyPost_ret (v := .agg #[.string pk, .string pw]) (by simp [results, Tryz.results22, go_sem, r0, r1]) rfl ⟨rfl, r2⟩
end Go.Proofs.YtkeeljjbdmmeiaaGreatDoor
