/- edit.Decode at bytes that are no edit's. Conditions: those written at each theorem. -/
import Derived.Test.YtchflkibbdfeaaaEdQ
namespace Go.Proofs.Ytchflkibbdfeaaa
open Go.RowKit Go.Sort
set_option linter.unusedVariables false
set_option linter.unusedSimpArgs false
/-- A list of files of whatever shape. -/
theorem list_fsome {b : Nat} {σ : Option (List UInt8)} {w : World} (h : Rd b σ w) : Calls Try.prog 34 #[.pointer (some ⟨b, 0, none⟩), .func (.func 35) #[] #[]] w fun e w' => (∃ va k vc q, e = .returned (.tuple #[.slice va k vc, .bool q])) ∧ (∃ τ, Rd b τ w') ∧ w.grownBy w' (some b) := by
  have h0 : 0 ≤ (sI σ).1 := sI_range
  by_cases hn : 100 < (sI σ).1
  · refine (list_fover h hn).mono ?_
    rintro e w' ⟨he, hr, hg⟩
    exact ⟨⟨_, _, _, _, he⟩, ⟨_, hr⟩, hg⟩
  · refine (list_files (n := (sI σ).1.toNat) h (by
      have : (((sI σ).1.toNat : Nat) : Int) = (sI σ).1 := by omega
      rw [this]) (by omega)).mono ?_
    rintro e w' ⟨⟨va, vc, he, _⟩, hr, hg⟩
    exact ⟨⟨_, _, _, _, he⟩, ⟨_, hr⟩, hg⟩
set_option maxRecDepth 100000 in
set_option maxHeartbeats 8000000 in
theorem decode_no {s : ByteArray} (hs : s.size ≤ maxLen) (w : World) (hG : ¬ Good (some s.data.toList)) : Calls Try.prog 13 #[.string s] w fun e w' => e = .returned (.tuple #[.agg #[.int .i64 0, .int .i64 0, .int .i64 0, .slice none 0 0, .slice none 0 0], .int .i64 3]) ∧ Below w.heap.size w w' := by
  obtain ⟨σ, hσ⟩ : ∃ σ, σ = some s.data.toList := ⟨_, rfl⟩
  rw [← hσ] at hG
  have CR : Hid (∀ W, Calls Try.prog 30 #[.string s] W fun e w' => e = .returned (.pointer (some ⟨W.heap.size, 0, none⟩)) ∧ W.alloc (.cells #[.string s, .bool false] 100) = w') := Lib.hid (read_any s)
  obtain ⟨w1, hw1⟩ : ∃ x, x = ((w.alloc (.cells #[.int .i64 0, .int .i64 0, .int .i64 0, .slice none 0 0, .slice none 0 0] 33)).alloc (.cells #[.string s, .bool false] 100)).alloc (.cells #[.int .i64 0, .int .i64 0, .int .i64 0, .slice none 0 0, .slice none 0 0] 33) := ⟨_, rfl⟩
  have hb1 : Below w.heap.size w w1 := by rw [hw1]; exact (((Below.refl _ _).alloc (Nat.le_refl _) _).alloc (by simp) _).alloc (by simp; omega) _
  have hO : w1.heap[w.heap.size]? = some (.cells #[.int .i64 0, .int .i64 0, .int .i64 0, .slice none 0 0, .slice none 0 0] 33 (0, 0)) := by
    rw [hw1, Below.heap_alloc _ _ _ (by simp; omega), Below.heap_alloc _ _ _ (by simp)]; exact heap_alloc_new w _
  have hR : w1.heap[w.heap.size + 1]? = some (.cells #[.string s, .bool false] 100 (0, 0)) := by
    rw [hw1, Below.heap_alloc _ _ _ (by simp)]
    have := heap_alloc_new (w.alloc (.cells #[.int .i64 0, .int .i64 0, .int .i64 0, .slice none 0 0, .slice none 0 0] 33)) (.cells #[.string s, .bool false] 100)
    simpa using this
  have hE : w1.heap[w.heap.size + 2]? = some (.cells #[.int .i64 0, .int .i64 0, .int .i64 0, .slice none 0 0, .slice none 0 0] 33 (0, 0)) := by
    rw [hw1]
    have := heap_alloc_new ((w.alloc (.cells #[.int .i64 0, .int .i64 0, .int .i64 0, .slice none 0 0, .slice none 0 0] 33)).alloc (.cells #[.string s, .bool false] 100)) (.cells #[.int .i64 0, .int .i64 0, .int .i64 0, .slice none 0 0, .slice none 0 0] 33)
    simpa using this
  have HT : Hid (DF σ #[.int .i64 0, .int .i64 0, .int .i64 0, .slice none 0 0, .slice none 0 0] w w1) := Lib.hid ⟨by rw [hσ]; exact ⟨hR, by simpa using hs⟩, hO, hE, hb1⟩
  have HW1 := Lib.hid hw1
  have HG := Lib.hid hG
  have S1 : Hid (∀ W, Rd (w.heap.size + 1) σ W → _) := Lib.hid fun W h => rd_signed h
  have S2 : Hid (∀ W, Rd (w.heap.size + 1) (sS σ).2 W → _) := Lib.hid fun W h => rd_signed h
  have S3 : Hid (∀ W, Rd (w.heap.size + 1) (sS (sS σ).2).2 W → _) := Lib.hid fun W h => rd_signed h
  clear hw1 hb1 hO hR hE hG hσ hs
  go_enter Try.func13, Try.ntmps13
  go_upto_region 3 with (go_at_call 30; (with_reducible refine (CR.out _).mono ?_); rintro e w2 ⟨rfl, rfl⟩)
  refine wp_letter (fun W => w1 = W) HW1.out ?_
  rintro _ rfl
  clear HW1 CR
  go_upto_region 4 with (go_at_call 31; first | ((with_reducible refine (S1.out _ HT.out.rd).mono ?_); rintro e w2 ⟨rfl, hr, hg⟩; have HT := Lib.hid (HT.out.step hr hg); clear hr hg) | ((with_reducible refine (S2.out _ HT.out.rd).mono ?_); rintro e w2 ⟨rfl, hr, hg⟩; have HT := Lib.hid (HT.out.step hr hg); clear hr hg) | ((with_reducible refine (S3.out _ HT.out.rd).mono ?_); rintro e w2 ⟨rfl, hr, hg⟩; have HT := Lib.hid (HT.out.step hr hg); have hx := HT.out.own; obtain ⟨x0, x1, x2, x3, x4⟩ := five_cells hx; have f0 := free_blk hx 0; have f1 := free_blk hx 1; have f2 := free_blk hx 2; clear hr hg hx))
  refine wp_letter (fun W => DF (dS σ) #[.int .i64 (dL σ), .int .i64 (dX σ), .int .i64 (dQ σ), .slice none 0 0, .slice none 0 0] w W) (((HT.out.set 0 (.int .i64 (dL σ))).set 1 (.int .i64 (dX σ))).set 2 (.int .i64 (dQ σ))) ?_
  intro w3 ht
  have HT := Lib.hid ht
  clear ht x0 x1 x2 x3 x4 f0 f1 f2 S1 S2 S3
  by_cases hbig : 100 < dN σ
  · have L1 := Lib.hid (list_over HT.out.rd hbig)
    go_upto_region 6 with (go_at_call 32; (with_reducible refine L1.out.mono ?_); rintro e w4 ⟨rfl, hr, hg⟩; have HT := Lib.hid (HT.out.step hr hg); have hx := HT.out.own; obtain ⟨x0, x1, x2, x3, x4⟩ := five_cells hx; have f3 := free_blk hx 3; clear hr hg hx)
    refine wp_letter (fun W => DF (sI (dS σ)).2 #[.int .i64 (dL σ), .int .i64 (dX σ), .int .i64 (dQ σ), .slice none 0 0, .slice none 0 0] w W) (HT.out.set 3 (.slice none 0 0)) ?_
    intro w5 ht
    have HT := Lib.hid ht
    have L2 := Lib.hid (list_fsome ht.rd)
    clear ht x0 x1 x2 x3 x4 f3 L1
    go_upto_region 7 with (go_at_call 34; (with_reducible refine L2.out.mono ?_); rintro e w6 ⟨⟨va, k, vc, q, rfl⟩, ⟨τ, hr⟩, hg⟩; have HT := Lib.hid (HT.out.step hr hg); have hx := HT.out.own; obtain ⟨x0, x1, x2, x3, x4⟩ := five_cells hx; have f4 := free_blk hx 4; clear hr hg hx)
    refine wp_letter (fun W => DF τ #[.int .i64 (dL σ), .int .i64 (dX σ), .int .i64 (dQ σ), .slice none 0 0, .slice va k vc] w W) (HT.out.set 4 (.slice va k vc)) ?_
    intro w7 ht
    have HT := Lib.hid ht
    have BEL := Lib.hid ht.bel
    obtain ⟨o0, o1, o2, o3, o4⟩ := five_cells ht.out
    have p0 := free_blk ht.out 0
    have p1 := free_blk ht.out 1
    have p2 := free_blk ht.out 2
    have p3 := free_blk ht.out 3
    have p4 := free_blk ht.out 4
    clear ht x0 x1 x2 x3 x4 f4 L2
    go_wp2_with fail
    exact bodyPost_ret (v := .tuple #[.agg #[.int .i64 0, .int .i64 0, .int .i64 0, .slice none 0 0, .slice none 0 0], .int .i64 3]) (by simp [results, Try.results13, go_sem, o0, o1, o2, o3, o4, p0, p1, p2, p3, p4]) rfl ⟨rfl, ((((BEL.out.setCell (p := ⟨w.heap.size, 0, none⟩) (by simp) _).setCell (p := ⟨w.heap.size, 1, none⟩) (by simp) _).setCell (p := ⟨w.heap.size, 2, none⟩) (by simp) _).setCell (p := ⟨w.heap.size, 3, none⟩) (by simp) _).setCell (p := ⟨w.heap.size, 4, none⟩) (by simp) _⟩
  · skip
    obtain ⟨n, hn⟩ : ∃ n, n = (dN σ).toNat := ⟨_, rfl⟩
    have hn1 : n ≤ 100 := by omega
    have hq1 : sI (dS σ) = ((n : Int), (sI (dS σ)).2) := by
      have h0 : 0 ≤ (sI (dS σ)).1 := sI_range
      have h1 : (sI (dS σ)).1 = (n : Int) := by rw [hn]; show (sI (dS σ)).1 = (((sI (dS σ)).1.toNat : Nat) : Int); omega
      rw [← h1]
    have L1 : Hid (∀ W, Rd (w.heap.size + 1) (dS σ) W → Calls Try.prog 32 #[.pointer (some ⟨w.heap.size + 1, 0, none⟩), .func (.func 33) #[] #[]] W fun e w' => (∃ va vc, e = .returned (.tuple #[.slice va n vc, .bool true]) ∧ n ≤ vc ∧ vc ≤ maxLen ∧ VAt w'.heap.size va ((dD σ).map (Value.int .i64)) w' ∧ ∀ a, va = some a → W.heap.size ≤ a.block) ∧ Rd (w.heap.size + 1) (dT σ) w' ∧ W.grownBy w' (some (w.heap.size + 1))) := Lib.hid fun W h => by
      have := list_ints h hq1 hn1
      rw [hn] at this ⊢
      exact this
    have HN : Hid (n = (dD σ).length) := Lib.hid (by rw [hn]; exact (vT_len _ _ _).symm)
    clear hq1 hn
    go_upto_region 6 with (go_at_call 32; (with_reducible refine (L1.out _ HT.out.rd).mono ?_); rintro e w4 ⟨⟨dd, dc, rfl, hcap, hcm, hva, hown⟩, hr, hg⟩; have HCM := Lib.hid hcm; have HV := Lib.hid hva; have HCAP := Lib.hid hcap; have HOWN := Lib.hid hown; have HT0 := HT; have HT := Lib.hid (HT.out.step hr hg); have hx := HT.out.own; obtain ⟨x0, x1, x2, x3, x4⟩ := five_cells hx; have f3 := free_blk hx 3; clear hr hg hx hva hcap hcm hown)
    refine wp_letter (fun W => DF (dT σ) #[.int .i64 (dL σ), .int .i64 (dX σ), .int .i64 (dQ σ), .slice dd n dc, .slice none 0 0] w W ∧ VAt W.heap.size dd ((dD σ).map (Value.int .i64)) W ∧ ∀ a, dd = some a → w.heap.size + 3 ≤ a.block) ⟨HT.out.set 3 (.slice dd n dc), ?_, ?_⟩ ?_
    · refine HV.out.keep (fun a ha _ => Below.heap_setCell _ _ _ _ ?_) (by simp [World.setCell])
      have h1 := HOWN.out a ha
      have h2 := lt_of_heap HT0.out.own
      show a.block ≠ w.heap.size + 2
      omega
    · intro a ha
      have h1 := HOWN.out a ha
      have h2 := lt_of_heap HT0.out.own
      omega
    rintro w5 ⟨ht, hv, ho⟩
    clear HT HT0 HV HOWN x0 x1 x2 x3 x4 f3 L1
    have HT := Lib.hid ht
    have HV := Lib.hid hv
    have HO := Lib.hid ho
    clear ht hv ho
    by_cases hbig2 : 100 < dM σ
    · have L2 := Lib.hid (list_fover HT.out.rd hbig2)
      go_upto_region 7 with (go_at_call 34; (with_reducible refine L2.out.mono ?_); rintro e w6 ⟨rfl, hr, hg⟩; have HT := Lib.hid (HT.out.step hr hg); have hx := HT.out.own; obtain ⟨x0, x1, x2, x3, x4⟩ := five_cells hx; have f4 := free_blk hx 4; clear hr hg hx)
      refine wp_letter (fun W => DF (sI (dT σ)).2 #[.int .i64 (dL σ), .int .i64 (dX σ), .int .i64 (dQ σ), .slice dd n dc, .slice none 0 0] w W) (HT.out.set 4 (.slice none 0 0)) ?_
      intro w7 ht
      have HOUT := Lib.hid ht.out
      have BEL := Lib.hid ht.bel
      clear ht x0 x1 x2 x3 x4 f4 L2
      obtain ⟨o0, o1, o2, o3, o4⟩ := five_cells HOUT.out
      have p0 := free_blk HOUT.out 0
      have p1 := free_blk HOUT.out 1
      have p2 := free_blk HOUT.out 2
      have p3 := free_blk HOUT.out 3
      have p4 := free_blk HOUT.out 4
      go_wp2_with fail
      exact bodyPost_ret (v := .tuple #[.agg #[.int .i64 0, .int .i64 0, .int .i64 0, .slice none 0 0, .slice none 0 0], .int .i64 3]) (by simp [results, Try.results13, go_sem, o0, o1, o2, o3, o4, p0, p1, p2, p3, p4]) rfl ⟨rfl, ((((BEL.out.setCell (p := ⟨w.heap.size, 0, none⟩) (by simp) _).setCell (p := ⟨w.heap.size, 1, none⟩) (by simp) _).setCell (p := ⟨w.heap.size, 2, none⟩) (by simp) _).setCell (p := ⟨w.heap.size, 3, none⟩) (by simp) _).setCell (p := ⟨w.heap.size, 4, none⟩) (by simp) _⟩
    · skip
      obtain ⟨m, hm⟩ : ∃ m, m = (dM σ).toNat := ⟨_, rfl⟩
      have hm1 : m ≤ 100 := by omega
      have hq2 : sI (dT σ) = ((m : Int), (sI (dT σ)).2) := by
        have h0 : 0 ≤ (sI (dT σ)).1 := sI_range
        have h1 : (sI (dT σ)).1 = (m : Int) := by rw [hm]; show (sI (dT σ)).1 = (((sI (dT σ)).1.toNat : Nat) : Int); omega
        rw [← h1]
      have HM : Hid (m = (dA σ).length) := Lib.hid (by rw [hm]; exact (vT_len _ _ _).symm)
      have L2 : Hid (∀ W, Rd (w.heap.size + 1) (dT σ) W → Calls Try.prog 34 #[.pointer (some ⟨w.heap.size + 1, 0, none⟩), .func (.func 35) #[] #[]] W fun e w' => (∃ va vc, e = .returned (.tuple #[.slice va m vc, .bool true]) ∧ m ≤ vc ∧ vc ≤ maxLen ∧ FlAt w'.heap.size va (dA σ) w' ∧ ∀ a, va = some a → W.heap.size ≤ a.block) ∧ Rd (w.heap.size + 1) (dE σ) w' ∧ W.grownBy w' (some (w.heap.size + 1))) := Lib.hid fun W h => by
        have := list_files h hq2 hm1
        rw [hm] at this ⊢
        exact this
      clear hq2 hm
      go_upto_region 7 with (go_at_call 34; (with_reducible refine (L2.out _ HT.out.rd).mono ?_); rintro e w6 ⟨⟨ao, c, rfl, hcap, hcm, hfl, hown⟩, hr, hg⟩; have HF := Lib.hid hfl; have HG2 := Lib.hid hg; have HCAP2 := Lib.hid hcap; have HOWN := Lib.hid hown; have HT0 := HT; have HT := Lib.hid (HT.out.step hr hg); have hx := HT.out.own; obtain ⟨x0, x1, x2, x3, x4⟩ := five_cells hx; have f4 := free_blk hx 4; clear hr hg hx hfl hcap hcm hown)
      refine wp_letter (fun W => DF (dE σ) #[.int .i64 (dL σ), .int .i64 (dX σ), .int .i64 (dQ σ), .slice dd n dc, .slice ao m c] w W ∧ VAt W.heap.size dd ((dD σ).map (Value.int .i64)) W ∧ FlAt W.heap.size ao (dA σ) W ∧ ∀ a, ao = some a → w.heap.size + 3 ≤ a.block) ⟨HT.out.set 4 (.slice ao m c), ?_, ?_, ?_⟩ ?_
      · refine HV.out.keep (fun a ha hp => ?_) (by have := HG2.out.size; simpa [World.setCell] using this)
        have h1 := HO.out a ha
        exact (Below.heap_setCell _ _ _ _ (by show a.block ≠ w.heap.size + 2; omega)).trans (HG2.out.block _ (HV.out.cells a ha hp).1 (fun e => by have e := Option.some.inj e; omega))
      · refine HF.out.keep (fun a ha _ => Below.heap_setCell _ _ _ _ ?_) (by simp [World.setCell])
        have h1 := HOWN.out a ha
        have h2 := lt_of_heap HT0.out.own
        show a.block ≠ w.heap.size + 2
        omega
      · intro a ha
        have h1 := HOWN.out a ha
        have h2 := lt_of_heap HT0.out.own
        omega
      rintro w7 ⟨ht, hv, hf, ho⟩
      have CE : Hid (Calls Try.prog 36 #[.pointer (some ⟨w.heap.size + 1, 0, none⟩)] w7 fun e w' => e = .returned (.bool (decide (dE σ = some []))) ∧ w7 = w') := Lib.hid (rd_end ht.rd)
      by_cases hE : dE σ = some []
      · have hS : ¬ Snd (dL σ) (dX σ) (dQ σ) (dD σ) (dA σ) := fun h => HG.out ⟨by omega, by omega, hE, h⟩
        have CS := Lib.hid (sound_any (lg := dL σ) (nx := dX σ) (sq := dQ σ) hv (by rw [← HN.out]; exact HCAP.out) HCM.out hf (Nat.le_refl _) (Nat.le_refl _) (by rw [← HM.out]; exact HCAP2.out) (by rw [← HM.out]; omega))
        rw [sndB_no hS, ← HN.out, ← HM.out] at CS
        have hd : decide (dE σ = some []) = true := by simpa using hE
        rw [hd] at CE
        have HT9 := Lib.hid ht
        obtain ⟨y0, y1, y2, y3, y4⟩ := five_cells ht.own
        clear hd hS hE HT HT0 HV HF HOWN x0 x1 x2 x3 x4 f4 L2 HG2 ht hv hf ho
        go_upto_region 8 with (first | (go_at_call 36; (with_reducible refine CE.out.mono ?_); rintro e w8 ⟨rfl, rfl⟩; clear CE) | (go_at_call 21; (with_reducible refine CS.out.mono ?_); rintro e w9 ⟨rfl, hb9⟩; have HB9 := Lib.hid hb9; clear hb9 y0 y1 y2 y3 y4 CS))
        have HOUT := Lib.hid ((HB9.out.block _ (lt_of_heap HT9.out.out)).trans HT9.out.out)
        have BEL := Lib.hid (HT9.out.bel.trans (HB9.out.mono HT9.out.bel.size))
        obtain ⟨o0, o1, o2, o3, o4⟩ := five_cells HOUT.out
        have p0 := free_blk HOUT.out 0
        have p1 := free_blk HOUT.out 1
        have p2 := free_blk HOUT.out 2
        have p3 := free_blk HOUT.out 3
        have p4 := free_blk HOUT.out 4
        go_wp2_with fail
        exact bodyPost_ret (v := .tuple #[.agg #[.int .i64 0, .int .i64 0, .int .i64 0, .slice none 0 0, .slice none 0 0], .int .i64 3]) (by simp [results, Try.results13, go_sem, o0, o1, o2, o3, o4, p0, p1, p2, p3, p4]) rfl ⟨rfl, ((((BEL.out.setCell (p := ⟨w.heap.size, 0, none⟩) (by simp) _).setCell (p := ⟨w.heap.size, 1, none⟩) (by simp) _).setCell (p := ⟨w.heap.size, 2, none⟩) (by simp) _).setCell (p := ⟨w.heap.size, 3, none⟩) (by simp) _).setCell (p := ⟨w.heap.size, 4, none⟩) (by simp) _⟩
      · have hd : decide (dE σ = some []) = false := by simpa using hE
        rw [hd] at CE
        have HOUT := Lib.hid ht.out
        have BEL := Lib.hid ht.bel
        clear hd hE HT HT0 HV HF HOWN x0 x1 x2 x3 x4 f4 L2 HG2 ht hv hf ho
        obtain ⟨o0, o1, o2, o3, o4⟩ := five_cells HOUT.out
        have p0 := free_blk HOUT.out 0
        have p1 := free_blk HOUT.out 1
        have p2 := free_blk HOUT.out 2
        have p3 := free_blk HOUT.out 3
        have p4 := free_blk HOUT.out 4
        go_wp2_with (go_at_call 36; (with_reducible refine CE.out.mono ?_); rintro e w8 ⟨rfl, rfl⟩; clear CE)
        exact bodyPost_ret (v := .tuple #[.agg #[.int .i64 0, .int .i64 0, .int .i64 0, .slice none 0 0, .slice none 0 0], .int .i64 3]) (by simp [results, Try.results13, go_sem, o0, o1, o2, o3, o4, p0, p1, p2, p3, p4]) rfl ⟨rfl, ((((BEL.out.setCell (p := ⟨w.heap.size, 0, none⟩) (by simp) _).setCell (p := ⟨w.heap.size, 1, none⟩) (by simp) _).setCell (p := ⟨w.heap.size, 2, none⟩) (by simp) _).setCell (p := ⟨w.heap.size, 3, none⟩) (by simp) _).setCell (p := ⟨w.heap.size, 4, none⟩) (by simp) _⟩
end Go.Proofs.Ytchflkibbdfeaaa
