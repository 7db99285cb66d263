/- A block's pairs are read one by one: the whole loop. Conditions: those written at each theorem. -/
import Derived.Test.YtolmbccdkfbppaaBkQ
namespace Go.Proofs.Ytolmbccdkfbppaa
open Go.RowKit
set_option linter.unusedVariables false
set_option linter.unusedSimpArgs false

/-- What the next pair of a block's bytes is. -/
structure Nx (ps : List PB) (rest : List UInt8) (p : PB) (m : List UInt8) : Prop where
  ok : rightP p = true
  up : leS p.k (lastB ps) = false
  len : ps.length < 4096
  g1 : gt 9223372036854775807 rest 0 0 = some (shr (foldB ps) p.k, grp (p.k.size - shr (foldB ps) p.k) ++ (grp p.v.size ++ (p.k.data.toList.drop (shr (foldB ps) p.k) ++ (p.v.data.toList ++ m))))
  g2 : gt 9223372036854775807 (grp (p.k.size - shr (foldB ps) p.k) ++ (grp p.v.size ++ (p.k.data.toList.drop (shr (foldB ps) p.k) ++ (p.v.data.toList ++ m)))) 0 0 = some (p.k.size - shr (foldB ps) p.k, grp p.v.size ++ (p.k.data.toList.drop (shr (foldB ps) p.k) ++ (p.v.data.toList ++ m)))
  g3 : gt 9223372036854775807 (grp p.v.size ++ (p.k.data.toList.drop (shr (foldB ps) p.k) ++ (p.v.data.toList ++ m))) 0 0 = some (p.v.size, p.k.data.toList.drop (shr (foldB ps) p.k) ++ (p.v.data.toList ++ m))
  last : shr (foldB ps) p.k ≤ (lastB ps).size
  eq : rdP (lastB ps) (shr (foldB ps) p.k) (p.k.data.toList.drop (shr (foldB ps) p.k)) p.v.data.toList = p
theorem Hyp.nx {s : List UInt8} {ps : List PB} {rest : List UInt8} (h : Hyp s ps rest) (hne : rest ≠ []) {qs : List PB} (hq : IsB s qs) : ∃ p tl m, qs = ps ++ p :: tl ∧ Nx ps rest p m ∧ (foldB qs).laid = (foldB (ps ++ [p])).laid ++ m := by
  obtain ⟨p, tl, m, e1, e2, e3⟩ := h.next hne qs hq
  have hr := hq.1
  rw [e1] at hr
  obtain ⟨h1, h2, h3⟩ := hr.mid
  obtain ⟨g1, g2, g3⟩ := read_one e2 h1
  refine ⟨p, tl, m, e1, ⟨h1, h2, h3, g1, g2, g3, ?_, ?_⟩, e3⟩
  · have := shr_last (foldB ps) p.k
    rwa [foldB_last] at this
  · have := rdP_eq (S := foldB ps) (p := p)
    rwa [foldB_last] at this
section
variable {s : List UInt8} {ps : List PB} {rest r1 r2 r3 : List UInt8} {a b c : Nat}
theorem Hyp.no1 (h : Hyp s ps rest) (hne : rest ≠ []) (g : gt 9223372036854775807 rest 0 0 = none) : ∀ qs, ¬ IsB s qs := fun qs hq => by
  obtain ⟨p, tl, m, _, n, _⟩ := h.nx hne hq
  rw [n.g1] at g; cases g
theorem Hyp.no2 (h : Hyp s ps rest) (hne : rest ≠ []) (g1 : gt 9223372036854775807 rest 0 0 = some (a, r1)) (g : gt 9223372036854775807 r1 0 0 = none) : ∀ qs, ¬ IsB s qs := fun qs hq => by
  obtain ⟨p, tl, m, _, n, _⟩ := h.nx hne hq
  rw [n.g1] at g1
  simp only [Option.some.injEq, Prod.mk.injEq] at g1
  rw [← g1.2, n.g2] at g; cases g
theorem Hyp.no3 (h : Hyp s ps rest) (hne : rest ≠ []) (g1 : gt 9223372036854775807 rest 0 0 = some (a, r1)) (g2 : gt 9223372036854775807 r1 0 0 = some (b, r2)) (g : gt 9223372036854775807 r2 0 0 = none) : ∀ qs, ¬ IsB s qs := fun qs hq => by
  obtain ⟨p, tl, m, _, n, _⟩ := h.nx hne hq
  rw [n.g1] at g1
  simp only [Option.some.injEq, Prod.mk.injEq] at g1
  rw [← g1.2, n.g2] at g2
  simp only [Option.some.injEq, Prod.mk.injEq] at g2
  rw [← g2.2, n.g3] at g; cases g
/-- What was read of a block's bytes is its next pair. -/
theorem Hyp.all (h : Hyp s ps rest) (hne : rest ≠ []) (g1 : gt 9223372036854775807 rest 0 0 = some (a, r1)) (g2 : gt 9223372036854775807 r1 0 0 = some (b, r2)) (g3 : gt 9223372036854775807 r2 0 0 = some (c, r3)) {qs : List PB} (hq : IsB s qs) :
    ∃ p tl m, qs = ps ++ p :: tl ∧ rightP p = true ∧ leS p.k (lastB ps) = false ∧ ps.length < 4096 ∧ b ≤ r3.length ∧ c ≤ (r3.drop b).length ∧ a ≤ (lastB ps).size ∧ rdP (lastB ps) a (r3.take b) ((r3.drop b).take c) = p ∧ (r3.drop b).drop c = m ∧ (foldB qs).laid = (foldB (ps ++ [p])).laid ++ m := by
  obtain ⟨p, tl, m, e1, n, e3⟩ := h.nx hne hq
  rw [n.g1] at g1
  simp only [Option.some.injEq, Prod.mk.injEq] at g1
  obtain ⟨rfl, rfl⟩ := g1
  rw [n.g2] at g2
  simp only [Option.some.injEq, Prod.mk.injEq] at g2
  obtain ⟨rfl, rfl⟩ := g2
  rw [n.g3] at g3
  simp only [Option.some.injEq, Prod.mk.injEq] at g3
  obtain ⟨rfl, rfl⟩ := g3
  have l0 : p.k.data.toList.length = p.k.size := Array.length_toList
  have l1 : (p.k.data.toList.drop (shr (foldB ps) p.k)).length = p.k.size - shr (foldB ps) p.k := by rw [List.length_drop, l0]
  have l2 : p.v.data.toList.length = p.v.size := Array.length_toList
  have t1 : (p.k.data.toList.drop (shr (foldB ps) p.k) ++ (p.v.data.toList ++ m)).take (p.k.size - shr (foldB ps) p.k) = p.k.data.toList.drop (shr (foldB ps) p.k) := List.take_left' l1
  have t2 : (p.k.data.toList.drop (shr (foldB ps) p.k) ++ (p.v.data.toList ++ m)).drop (p.k.size - shr (foldB ps) p.k) = p.v.data.toList ++ m := List.drop_left' l1
  have t3 : (p.v.data.toList ++ m).take p.v.size = p.v.data.toList := List.take_left' l2
  have t4 : (p.v.data.toList ++ m).drop p.v.size = m := List.drop_left' l2
  refine ⟨p, tl, m, e1, n.ok, n.up, n.len, ?_, ?_, n.last, ?_, ?_, e3⟩
  · rw [List.length_append]; omega
  · rw [t2, List.length_append]; omega
  · rw [t1, t2, t3]; exact n.eq
  · rw [t2, t4]
end
theorem gt_len {l r : List UInt8} {n : Nat} (h : gt 9223372036854775807 l 0 0 = some (n, r)) : r.length < l.length := by
  have e := gt_inv0 h
  have := grp_pos n
  rw [e, List.length_append]; omega
theorem lastB_snoc (ps : List PB) (p : PB) : lastB (ps ++ [p]) = p.k := by simp [lastB]
theorem raw_yesL (b : Nat) (l : List UInt8) (n : Nat) (hn : n ≤ l.length) (hl : l.length ≤ maxLen) (w : World) (h : RdAt b ⟨l.toArray⟩ false w) :
    Calls Try.prog 48 #[.pointer (some ⟨b, 0, none⟩), .int .i64 n] w fun e w' => e = .returned (.string ⟨(l.take n).toArray⟩) ∧ RdAt b ⟨(l.drop n).toArray⟩ false w' ∧ w.grownBy w' (some b) := by
  have h1 := raw_yes b ⟨l.toArray⟩ n (by rw [str_size]; exact hn) (by rw [str_size]; exact hl) w h
  rw [extract_take, extract_drop] at h1
  exact h1
theorem raw_noL (b : Nat) (l : List UInt8) (n : Nat) (hn : l.length < n) (hl : l.length ≤ maxLen) (w : World) (h : RdAt b ⟨l.toArray⟩ false w) :
    Calls Try.prog 48 #[.pointer (some ⟨b, 0, none⟩), .int .i64 n] w fun e w' => e = .returned (.string ⟨#[]⟩) ∧ RdAt b ⟨#[]⟩ true w' ∧ w.grownBy w' (some b) :=
  raw_no b ⟨l.toArray⟩ false n (.inr (.inl (by rw [str_size]; omega))) (by rw [str_size]; exact hl) w h (fun h => by cases h)
def EachP (w0 : World) (bb bx bu : Nat) (s : List UInt8) (e : Ending) (w' : World) : Prop :=
  ∃ ok : Bool, e = .returned (.bool ok) ∧ Below w0.heap.size w0 w' ∧ (ok = true → ∃ ps, Rise ps ∧ OAt w0 bb bx bu ps (foldB ps) w' ∧ Hyp s ps []) ∧ (ok = false → ∀ ps, ¬ IsB s ps)
set_option maxRecDepth 100000 in
set_option maxHeartbeats 8000000 in
theorem each_any {w0 W : World} {bb bx bu : Nat} (s : List UInt8) (laid : List UInt8) (hl : laid.length ≤ 1000000000) (h : OAt w0 bb bx bu [] (foldB []) W) (hy : Hyp s [] laid) :
    Calls Try.prog 36 #[.string ⟨laid.toArray⟩, .func (.func 37) #[] #[.pointer (some ⟨bx, 0, none⟩), .pointer (some ⟨bu, 0, none⟩)]] W (EachP w0 bb bx bu s) := by
  have H0 := Lib.hid (h.under ((Below.refl W.heap.size W).alloc (Nat.le_refl _) (.cells #[.string ⟨laid.toArray⟩, .bool false] 87)))
  have R0 := Lib.hid (RdAt.fresh W ⟨laid.toArray⟩)
  have hq0 : w0.heap.size ≤ W.heap.size := h.bel.size
  have hbq0 : bu < W.heap.size := h.bld.lt
  have HY := Lib.hid hy
  obtain ⟨q, hq⟩ : ∃ q, q = W.heap.size := ⟨_, rfl⟩
  obtain ⟨ls, hls⟩ : ∃ ls : ByteArray, ls = ⟨laid.toArray⟩ := ⟨_, rfl⟩
  have HLS := Lib.hid hls
  rw [← hls]
  rw [← hls] at H0 R0
  clear h hy hls
  go_enter Try.func36, Try.ntmps36
  go_wp2_with fail
  refine (read_any ls _).mono ?_
  rintro e w1 ⟨rfl, rfl⟩
  go_wp2_with fail
  rw [← hq] at hq0 hbq0 R0 ⊢
  obtain ⟨WS, hWS⟩ : ∃ WS, WS = W.alloc (.cells #[.string ls, .bool false] 87) := ⟨_, rfl⟩
  rw [← hWS] at H0 R0
  refine wp_letter (fun X => WS = X) hWS ?_
  rintro _ rfl
  rw [HLS.out] at R0
  clear hWS hq
  go_loopg [5] laid.length (fun k last wr => ∃ (ps : List PB) (rest : List UInt8) (lb : ByteArray), last = .string lb ∧ Hid (lb = lastB ps ∧ lb.size ≤ 80) ∧ Hid (rest.length = k ∧ rest.length ≤ 1000000000 ∧ Rise ps ∧ Hyp s ps rest) ∧ Hid (OAt w0 bb bx bu ps (foldB ps) wr) ∧ Hid (RdAt q ⟨rest.toArray⟩ false wr))
  case atStart => exact ⟨[], laid, ⟨#[]⟩, rfl, Lib.hid ⟨rfl, by decide⟩, Lib.hid ⟨rfl, hl, Rise.nil, HY.out⟩, H0, R0⟩
  case round =>
    obtain ⟨ps, rest, lb, rfl, HLB, HH, O0, R1⟩ := hrel
    clear H0 R0
    obtain ⟨hk, hrl, hri, hyp⟩ := HH.out
    have HYP := Lib.hid hyp
    have HRI := Lib.hid hri
    have hlb := HLB.out.2
    have EN := Lib.hid (end_good q ⟨rest.toArray⟩ wr R1.out)
    clear hyp hri HH
    by_cases hz : rest = []
    · have hem : (⟨rest.toArray⟩ : ByteArray).toList.isEmpty = true := isEmpty_true (by rw [hz]; rfl)
      rw [hem] at EN
      have HF : Hid (EachP w0 bb bx bu s (.returned (.bool true)) wr) := Lib.hid ⟨true, rfl, O0.out.bel, fun _ => ⟨ps, HRI.out, O0.out, by rw [← hz]; exact HYP.out⟩, (fun h => by cases h)⟩
      clear hz hem
      go_wp2_with fail
      refine EN.out.mono ?_
      rintro e w1 ⟨rfl, rfl⟩
      go_wp2_with fail
      go_ret
      exact HF.out
    · have hem : (⟨rest.toArray⟩ : ByteArray).toList.isEmpty = false := isEmpty_false (by rw [str_size]; exact fun e => hz (List.eq_nil_of_length_eq_zero e))
      rw [hem] at EN
      have HZ := Lib.hid hz
      clear hz hem
      have mx : ∀ l : List UInt8, l.length ≤ 1000000000 → (⟨l.toArray⟩ : ByteArray).size ≤ maxLen := fun l h => by rw [str_size]; unfold maxLen; omega
      have MX := Lib.hid mx
      have mL : ∀ l : List UInt8, l.length ≤ 1000000000 → l.length ≤ maxLen := fun l h => by unfold maxLen; omega
      have ML := Lib.hid mL
      clear mx mL
      go_wp2_with fail
      refine EN.out.mono ?_
      rintro e w1 ⟨rfl, rfl⟩
      cases g1 : gt 9223372036854775807 rest 0 0 with
      | none =>
        have HNO : Hid (∀ qs, ¬ IsB s qs) := Lib.hid (HYP.out.no1 HZ.out g1)
        go_wp2_with fail
        refine (rsize_no q ⟨rest.toArray⟩ (MX.out _ hrl) (by simpa using g1) _ R1.out).mono ?_
        rintro e v10 ⟨rfl, h, k'⟩
        have R10 := Lib.hid h
        have O10 := Lib.hid (O0.out.rd R1.out k' hq0)
        clear h k'
        go_wp2_with fail
        refine (rsize_bad q _ R10.out).mono ?_
        rintro e v11 ⟨rfl, h, k'⟩
        have R11 := Lib.hid h
        have O11 := Lib.hid (O10.out.rd R10.out k' hq0)
        clear h k'
        go_wp2_with fail
        refine (rsize_bad q _ R11.out).mono ?_
        rintro e v12 ⟨rfl, h, k'⟩
        have R12 := Lib.hid h
        have O12 := Lib.hid (O11.out.rd R11.out k' hq0)
        clear h k'
        go_wp2_with fail
        refine (raw_badn q _ _ R12.out).mono ?_
        rintro e v13 ⟨rfl, h, k'⟩
        have R13 := Lib.hid h
        have O13 := Lib.hid (O12.out.rd R12.out k' hq0)
        clear h k'
        go_wp2_with fail
        refine (raw_badn q _ _ R13.out).mono ?_
        rintro e v14 ⟨rfl, h, k'⟩
        have R14 := Lib.hid h
        have O14 := Lib.hid (O13.out.rd R13.out k' hq0)
        clear h k'
        go_wp2_with fail
        refine (good_any q _ true _ R14.out).mono ?_
        rintro e v20 ⟨rfl, rfl⟩
        go_wp2_with fail
        go_ret
        exact ⟨false, rfl, O14.out.bel, (fun h => by cases h), fun _ => HNO.out⟩
      | some x1 =>
        obtain ⟨a, r1⟩ := x1
        have G1 := Lib.hid g1
        have hr1 : r1.length ≤ 1000000000 := by have := gt_len g1; omega
        have ha63 := gt_63 _ 0 0 _ _ (by decide) (by decide) g1
        clear g1
        go_wp2_with fail
        refine (rsize_yes q ⟨rest.toArray⟩ (MX.out _ hrl) a r1 (by simpa using G1.out) _ R1.out).mono ?_
        rintro e v2 ⟨rfl, h, k'⟩
        have R2 := Lib.hid h
        have O2 := Lib.hid (O0.out.rd R1.out k' hq0)
        clear h k'
        cases g2 : gt 9223372036854775807 r1 0 0 with
        | none =>
          have HNO : Hid (∀ qs, ¬ IsB s qs) := Lib.hid (HYP.out.no2 HZ.out G1.out g2)
          go_wp2_with fail
          refine (rsize_no q ⟨r1.toArray⟩ (MX.out _ hr1) (by simpa using g2) _ R2.out).mono ?_
          rintro e v10 ⟨rfl, h, k'⟩
          have R10 := Lib.hid h
          have O10 := Lib.hid (O2.out.rd R2.out k' hq0)
          clear h k'
          go_wp2_with fail
          refine (rsize_bad q _ R10.out).mono ?_
          rintro e v11 ⟨rfl, h, k'⟩
          have R11 := Lib.hid h
          have O11 := Lib.hid (O10.out.rd R10.out k' hq0)
          clear h k'
          go_wp2_with fail
          refine (raw_badn q _ _ R11.out).mono ?_
          rintro e v12 ⟨rfl, h, k'⟩
          have R12 := Lib.hid h
          have O12 := Lib.hid (O11.out.rd R11.out k' hq0)
          clear h k'
          go_wp2_with fail
          refine (raw_badn q _ _ R12.out).mono ?_
          rintro e v13 ⟨rfl, h, k'⟩
          have R13 := Lib.hid h
          have O13 := Lib.hid (O12.out.rd R12.out k' hq0)
          clear h k'
          go_wp2_with fail
          refine (good_any q _ true _ R13.out).mono ?_
          rintro e v20 ⟨rfl, rfl⟩
          go_wp2_with fail
          go_ret
          exact ⟨false, rfl, O13.out.bel, (fun h => by cases h), fun _ => HNO.out⟩
        | some x2 =>
          obtain ⟨b, r2⟩ := x2
          have G2 := Lib.hid g2
          have hr2 : r2.length ≤ 1000000000 := by have := gt_len g2; omega
          have hb63 := gt_63 _ 0 0 _ _ (by decide) (by decide) g2
          clear g2
          go_wp2_with fail
          refine (rsize_yes q ⟨r1.toArray⟩ (MX.out _ hr1) b r2 (by simpa using G2.out) _ R2.out).mono ?_
          rintro e v3 ⟨rfl, h, k'⟩
          have R3 := Lib.hid h
          have O3 := Lib.hid (O2.out.rd R2.out k' hq0)
          clear h k'
          cases g3 : gt 9223372036854775807 r2 0 0 with
          | none =>
            have HNO : Hid (∀ qs, ¬ IsB s qs) := Lib.hid (HYP.out.no3 HZ.out G1.out G2.out g3)
            go_wp2_with fail
            refine (rsize_no q ⟨r2.toArray⟩ (MX.out _ hr2) (by simpa using g3) _ R3.out).mono ?_
            rintro e v10 ⟨rfl, h, k'⟩
            have R10 := Lib.hid h
            have O10 := Lib.hid (O3.out.rd R3.out k' hq0)
            clear h k'
            go_wp2_with fail
            refine (raw_badn q _ _ R10.out).mono ?_
            rintro e v11 ⟨rfl, h, k'⟩
            have R11 := Lib.hid h
            have O11 := Lib.hid (O10.out.rd R10.out k' hq0)
            clear h k'
            go_wp2_with fail
            refine (raw_badn q _ _ R11.out).mono ?_
            rintro e v12 ⟨rfl, h, k'⟩
            have R12 := Lib.hid h
            have O12 := Lib.hid (O11.out.rd R11.out k' hq0)
            clear h k'
            go_wp2_with fail
            refine (good_any q _ true _ R12.out).mono ?_
            rintro e v20 ⟨rfl, rfl⟩
            go_wp2_with fail
            go_ret
            exact ⟨false, rfl, O12.out.bel, (fun h => by cases h), fun _ => HNO.out⟩
          | some x3 =>
            obtain ⟨c, r3⟩ := x3
            have G3 := Lib.hid g3
            have hr3 : r3.length ≤ 1000000000 := by have := gt_len g3; omega
            have hc63 := gt_63 _ 0 0 _ _ (by decide) (by decide) g3
            have HALL : Hid (∀ qs, IsB s qs → ∃ p tl m, qs = ps ++ p :: tl ∧ rightP p = true ∧ leS p.k (lastB ps) = false ∧ ps.length < 4096 ∧ b ≤ r3.length ∧ c ≤ (r3.drop b).length ∧ a ≤ (lastB ps).size ∧ rdP (lastB ps) a (r3.take b) ((r3.drop b).take c) = p ∧ (r3.drop b).drop c = m ∧ (foldB qs).laid = (foldB (ps ++ [p])).laid ++ m) := Lib.hid fun qs hq => HYP.out.all HZ.out G1.out G2.out g3 hq
            have HM : Hid (((r3.drop b).drop c).length < gk ∧ ((r3.drop b).drop c).length ≤ 1000000000) := Lib.hid (by
              have e1 := gt_len G1.out
              have e2 := gt_len G2.out
              have e3 := gt_len g3
              rw [List.length_drop, List.length_drop]; omega)
            clear g3
            go_wp2_with fail
            refine (rsize_yes q ⟨r2.toArray⟩ (MX.out _ hr2) c r3 (by simpa using G3.out) _ R3.out).mono ?_
            rintro e v4 ⟨rfl, h, k'⟩
            have R4 := Lib.hid h
            have O4 := Lib.hid (O3.out.rd R3.out k' hq0)
            clear h k'
            by_cases hbl : b ≤ r3.length
            · go_wp2_with fail
              refine (raw_yesL q r3 b hbl (ML.out _ hr3) _ R4.out).mono ?_
              rintro e v5 ⟨rfl, h, k'⟩
              have R5 := Lib.hid h
              have O5 := Lib.hid (O4.out.rd R4.out k' hq0)
              clear h k'
              have hr4 : (r3.drop b).length ≤ 1000000000 := by rw [List.length_drop]; omega
              by_cases hcl : c ≤ (r3.drop b).length
              · go_wp2_with fail
                refine (raw_yesL q (r3.drop b) c hcl (ML.out _ hr4) _ R5.out).mono ?_
                rintro e v6 ⟨rfl, h, k'⟩
                have R6 := Lib.hid h
                have O6 := Lib.hid (O5.out.rd R5.out k' hq0)
                clear h k'
                obtain ⟨key, hkey⟩ : ∃ key : ByteArray, key = ⟨(r3.take b).toArray⟩ := ⟨_, rfl⟩
                obtain ⟨vl, hvl⟩ : ∃ vl : ByteArray, vl = ⟨((r3.drop b).take c).toArray⟩ := ⟨_, rfl⟩
                have hks : key.size ≤ 1000000000 := by rw [hkey, str_size, List.length_take]; omega
                have hvs : vl.size ≤ 1000000000 := by rw [hvl, str_size, List.length_take]; omega
                have HKEY := Lib.hid hkey
                have HVL := Lib.hid hvl
                rw [← hkey, ← hvl]
                clear hkey hvl
                go_wp2_with fail
                refine (good_any q _ false _ R6.out).mono ?_
                rintro e v20 ⟨rfl, rfl⟩
                by_cases hal : a ≤ lb.size
                · have hali : (a : Int) ≤ (lb.size : Int) := by omega
                  have ha0 : (0 : Int) ≤ (a : Int) := by omega
                  obtain ⟨pf, hpf⟩ : ∃ pf, pf = lb.extract 0 a := ⟨_, rfl⟩
                  have hpfs : pf.size ≤ 80 := by
                    have e2 : pf.data.toList.length = pf.size := Array.length_toList
                    rw [← e2, hpf, extract_take]
                    simp only [List.length_take]
                    have e3 : lb.data.toList.length = lb.size := Array.length_toList
                    omega
                  obtain ⟨nk, hnk⟩ : ∃ nk : ByteArray, nk = pf ++ key := ⟨_, rfl⟩
                  have HP : Hid (rdP (lastB ps) a (r3.take b) ((r3.drop b).take c) = ⟨nk, vl⟩) := Lib.hid (by
                    rw [hnk, hpf, extract_take, HKEY.out, HVL.out, str_app, HLB.out.1]
                    rfl)
                  have hnks : nk.size ≤ 1000000080 := by
                    have e2 : nk.data.toList.length = nk.size := Array.length_toList
                    have e4 : key.data.toList.length = key.size := Array.length_toList
                    have e5 : pf.data.toList.length = pf.size := Array.length_toList
                    have e3 : nk.data.toList = pf.data.toList ++ key.data.toList := by rw [hnk]; rw [ByteArray.data_append, Array.toList_append]
                    rw [← e2, e3, List.length_append]; omega
                  have hpf' : lb.extract 0 a = pf := hpf.symm
                  have hnk' : pf ++ key = nk := hnk.symm
                  have VV : Hid (Calls Try.prog 37 #[.agg #[.string nk, .string vl], .pointer (some ⟨bx, 0, none⟩), .pointer (some ⟨bu, 0, none⟩)] v6 (VisP w0 bb bx bu ps ⟨nk, vl⟩ v6)) := Lib.hid (visit_any O6.out HRI.out ⟨nk, vl⟩ ⟨by unfold maxLen; show nk.size ≤ _; omega, by unfold maxLen; show vl.size ≤ _; omega⟩)
                  clear hpf hnk
                  go_wp2_with fail
                  refine VV.out.mono ?_
                  rintro e v7 ⟨ok, rfl, hyes, hno, hbel, hsz, hrd⟩
                  cases ok with
                  | true =>
                    obtain ⟨y1, y2, y3, y4⟩ := hyes rfl
                    have O7 := Lib.hid y4
                    have R7 := Lib.hid (hrd q _ _ hbq0 R6.out)
                    have HR7 := Lib.hid (HRI.out.snoc y1 y2 y3)
                    have HN7 := Lib.hid ((rightP_iff.1 y1).2.1)
                    clear hyes hno hbel hsz hrd y1 y2 y3 y4
                    go_wp2_with fail
                    go_roundg ((r3.drop b).drop c).length
                    case rel =>
                      refine ⟨ps ++ [⟨nk, vl⟩], (r3.drop b).drop c, nk, rfl, Lib.hid ⟨by rw [lastB_snoc], HN7.out⟩, Lib.hid ⟨rfl, HM.out.2, HR7.out, fun qs hq => ?_⟩, O7, R7⟩
                      obtain ⟨p, tl, m, e1, _, _, _, _, _, _, e8, e9, e10⟩ := HALL.out qs hq
                      rw [HP.out] at e8
                      subst e8
                      exact ⟨tl, by rw [e1]; simp, by rw [e9]; exact e10⟩
                    case measure => exact HM.out.1
                  | false =>
                    have HNO : Hid (∀ qs, ¬ IsB s qs) := Lib.hid fun qs hq => by
                      obtain ⟨p, tl, m, e1, e2, e3, e4, _, _, _, e8, _, _⟩ := HALL.out qs hq
                      rw [HP.out] at e8
                      subst e8
                      exact hno rfl ⟨e2, e3, e4⟩
                    have HB := Lib.hid hbel
                    clear hyes hno hbel hsz hrd
                    go_wp2_with fail
                    go_ret
                    exact ⟨false, rfl, HB.out, (fun h => by cases h), fun _ => HNO.out⟩
                · have hali : (lb.size : Int) < (a : Int) := by omega
                  have HNO : Hid (∀ qs, ¬ IsB s qs) := Lib.hid fun qs hq => by
                    obtain ⟨p, tl, m, _, _, _, _, _, _, e7, _⟩ := HALL.out qs hq
                    rw [← HLB.out.1] at e7
                    exact hal e7
                  clear hal
                  go_wp2_with fail
                  go_ret
                  exact ⟨false, rfl, O6.out.bel, (fun h => by cases h), fun _ => HNO.out⟩
              · have HNO : Hid (∀ qs, ¬ IsB s qs) := Lib.hid (fun qs hq => by
                  obtain ⟨p, tl, m, _, _, _, _, _, e6, _⟩ := HALL.out qs hq
                  exact hcl e6)
                go_wp2_with fail
                refine (raw_noL q (r3.drop b) c (by omega) (ML.out _ hr4) _ R5.out).mono ?_
                rintro e v10 ⟨rfl, h, k'⟩
                have R10 := Lib.hid h
                have O10 := Lib.hid (O5.out.rd R5.out k' hq0)
                clear h k'
                go_wp2_with fail
                refine (good_any q _ true _ R10.out).mono ?_
                rintro e v20 ⟨rfl, rfl⟩
                go_wp2_with fail
                go_ret
                exact ⟨false, rfl, O10.out.bel, (fun h => by cases h), fun _ => HNO.out⟩
            · have HNO : Hid (∀ qs, ¬ IsB s qs) := Lib.hid (fun qs hq => by
                obtain ⟨p, tl, m, _, _, _, _, e5, _⟩ := HALL.out qs hq
                exact hbl e5)
              go_wp2_with fail
              refine (raw_noL q r3 b (by omega) (ML.out _ hr3) _ R4.out).mono ?_
              rintro e v10 ⟨rfl, h, k'⟩
              have R10 := Lib.hid h
              have O10 := Lib.hid (O4.out.rd R4.out k' hq0)
              clear h k'
              go_wp2_with fail
              refine (raw_badn q _ _ R10.out).mono ?_
              rintro e v11 ⟨rfl, h, k'⟩
              have R11 := Lib.hid h
              have O11 := Lib.hid (O10.out.rd R10.out k' hq0)
              clear h k'
              go_wp2_with fail
              refine (good_any q _ true _ R11.out).mono ?_
              rintro e v20 ⟨rfl, rfl⟩
              go_wp2_with fail
              go_ret
              exact ⟨false, rfl, O11.out.bel, (fun h => by cases h), fun _ => HNO.out⟩
end Go.Proofs.Ytolmbccdkfbppaa
