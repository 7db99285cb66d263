/- What the Go function Crash of package disk does. Conditions: those written at each theorem. -/
import Derived.Test.YtajcnendlcjeaaaDkK
import Derived.Test.YtajcnendlcjeaaaDkN
import Derived.Deep.DeepCutAuto
namespace Go.Proofs.Ytajcnendlcjeaaa
open Go.RowKit Go.Maps Go.WideShapes
set_option linter.unusedVariables false
set_option linter.unusedSimpArgs false

/-- What is kept of each file, by its place. -/
def keepAt (ks : List (Int × Int)) (i : Nat) : Int × Int := ks.getD i (0, 0)
/-- A file behind a crash. -/
structure Kept (ks : List (Int × Int)) (i : Nat) (f x : FileG) : Prop where
  nm : x.name = f.name
  bk : x.blk = f.blk
  vo : x.v.ownBlock = f.v.ownBlock
  by_ : x.bytes = keepB f.bytes f.safe (keepAt ks i).1 (keepAt ks i).2
  sf : x.safe = keptN f.bytes f.safe (keepAt ks i).1
def KeptL (ks : List (Int × Int)) (fs xs : List FileG) : Prop := xs.length = fs.length ∧ ∀ i f x, fs[i]? = some f → xs[i]? = some x → Kept ks i f x
/-- How many bytes there are. -/
def sumB (l : List FileG) : Nat := (l.map fun f => f.bytes.length).sum
theorem sumB_append (a b : List FileG) : sumB (a ++ b) = sumB a + sumB b := by simp [sumB]
theorem keptN_le {bs : List UInt8} {safe : Nat} {K : Int} (h : safe ≤ bs.length) : safe ≤ keptN bs safe K ∧ keptN bs safe K ≤ bs.length := by unfold keptN; omega
theorem keepB_len (bs : List UInt8) (safe : Nat) (K Z : Int) : (keepB bs safe K Z).length = keptN bs safe K := kp_len _ _ _ _ _
def CrashR (S : DS) (ks : List (Int × Int)) (S' : DS) : Prop := KeptL ks S.fs S'.fs ∧ S' = { S with off := false, armed := false, used := sumB S'.fs, fs := S'.fs }
/-- What is kept, in memory. -/
def KAt (lo : Option Addr) (ks : List (Int × Int)) (w : World) : Prop := (0 < ks.length → ∃ a, lo = some a) ∧ ∀ a, lo = some a → ∀ i k, ks[i]? = some k → w.cell? (a.add (i * 2)) = some (.int .i64 k.1) ∧ w.cell? ⟨(a.add (i * 2)).block, (a.add (i * 2)).off + 1, none⟩ = some (.int .i64 k.2)
theorem setF_mid {a r : List FileG} {f x : FileG} (hs : (a ++ f :: r).Pairwise Before) (hn : x.name = f.name) : setF (a ++ f :: r) x = a ++ x :: r := by
  have hne : ∀ g ∈ a ++ f :: r, g.name = x.name → look (a ++ f :: r) f.name = some f → g = f := fun g hg hgn hl => blk_one hs hl g hg (hgn.trans hn)
  obtain ⟨h1, h2, h3⟩ := List.pairwise_append.1 hs
  have ha : ∀ g ∈ a, g.name ≠ x.name := fun g hg e => by
    have := h3 g hg f (by simp)
    unfold Before at this
    rw [e, hn, WideAt.bytes_irrefl] at this
    cases this
  have hr : ∀ g ∈ r, g.name ≠ x.name := fun g hg e => by
    have := (List.pairwise_cons.1 h2).1 g hg
    unfold Before at this
    rw [e, hn, WideAt.bytes_irrefl] at this
    cases this
  have e1 : setF (a ++ f :: r) x = setF a x ++ setF (f :: r) x := by unfold setF; exact List.map_append
  have e2 : setF (f :: r) x = x :: setF r x := by unfold setF; rw [List.map_cons, if_pos hn.symm]
  rw [e1, e2, setF_id ha, setF_id hr]
theorem look_mid {a r : List FileG} {f : FileG} (hs : (a ++ f :: r).Pairwise Before) : look (a ++ f :: r) f.name = some f := by
  cases hl : look (a ++ f :: r) f.name with
  | none => exact absurd rfl (look_none hl f (by simp))
  | some g =>
    have := blk_one hs hl f (by simp) rfl
    rw [this]
/-- A file in its place is another one. -/
theorem DkAt.swap {B b m : Nat} {S : DS} {w w' : World} (h : DkAt B b m S w) {a r : List FileG} {f x : FileG} (hfs : S.fs = a ++ f :: r) (hn : x.name = f.name) (hbk : x.blk = f.blk) (hvo : x.v.ownBlock = f.v.ownBlock)
    (hx : FileAt B x w') (hon : Only f.own w w') : DkAt B b m { S with fs := a ++ x :: r } w' := by
  have hso := h.sorted
  rw [hfs] at hso
  have hlk : look S.fs x.name = some f := by rw [hfs, hn]; exact look_mid hso
  have hfm : f ∈ S.fs := by rw [hfs]; simp
  have hown : x.own = f.own := by unfold FileG.own; rw [hbk, hvo]
  have hset := putF_set h.sorted hlk
  rw [hfs, setF_mid hso hn] at hset
  have hbm := h.nd
  have hnd := h.nd
  simp only [List.nodup_cons] at hnd
  have hne : ∀ k ∈ f.own, k ≠ b ∧ k ≠ m := fun k hk => own_bm h hfm hk
  have hk : ∀ k, k < w.heap.size → k ∉ f.own → w'.heap[k]? = w.heap[k]? := hon.block
  have hput := h.put (S' := { S with fs := a ++ x :: r }) (w' := w') x (by rw [hfs]; exact hset.symm)
    ((hk b (h.lt b (by simp)) (fun hm => (hne b hm).1 rfl)).trans h.hd)
    ⟨S.fs.length, by
      rw [hfs, hset]
      have e : mkD (a ++ x :: r) = mkD (a ++ f :: r) := by simp [mkD, hn, hbk]
      rw [e, ← hfs]
      exact map_stay h.mp (hk m (h.lt m (by simp)) (fun hm => (hne m hm).2 rfl))⟩ hx
    (by rw [hown]; exact (List.pairwise_flatMap.1 hnd.2.2).1 f hfm)
    (fun k hk' => h.lo k (by rw [hown] at hk'; simp only [List.mem_cons]; exact .inr (.inr (List.mem_flatMap.2 ⟨f, hfm, hk'⟩))))
    (fun k hk' => .inl ⟨f, hlk, by rw [hown] at hk'; exact hk'⟩)
    (fun g hg k hk' => by
      obtain ⟨h1, h2⟩ := mem_delF.1 hg
      exact hk k ((h.fl g h1).lt k hk') (own_disj h h1 hfm (by rw [← hn]; exact h2) hk'))
  exact hput.1

theorem KAt.stay {lo : Option Addr} {ks : List (Int × Int)} {w w' : World} (h : KAt lo ks w) (hk : ∀ a, lo = some a → w'.heap[a.block]? = w.heap[a.block]?) : KAt lo ks w' := by
  refine ⟨h.1, fun a e i k hi => ?_⟩
  have hb := hk a e
  have e1 : (a.add (i * 2)).block = a.block := by unfold Addr.add; split <;> rfl
  have h1 := h.2 a e i k hi
  exact ⟨(World.cell?_of_block (by rw [e1]; exact hb)).trans h1.1, (World.cell?_of_block (by rw [e1]; exact hb)).trans h1.2⟩
/-- Memory in a round of a crash: i files are done. -/
structure InCrash (B b m : Nat) (S : DS) (ks : List (Int × Int)) (names : Value) (i : Nat) (xs : List FileG) (w wr : World) : Prop where
  len : xs.length = i
  kl : ∀ k f x, S.fs[k]? = some f → xs[k]? = some x → Kept ks k f x
  dk : DkAt B b m { S with off := false, armed := false, used := sumB xs, fs := xs ++ S.fs.drop i } wr
  on : Only (foot b m S) w wr
  nm : wr.ownsRow w.heap.size 9 1 names S.fs.length (S.fs.map fun f => .string ⟨f.name.toArray⟩)
theorem foot_mid {b m : Nat} {S : DS} {ks : List (Int × Int)} {i : Nat} {xs : List FileG} (hl : xs.length = i) (hi : i ≤ S.fs.length) (hk : ∀ k f x, S.fs[k]? = some f → xs[k]? = some x → Kept ks k f x) :
    ∀ k, k ∈ (xs ++ S.fs.drop i).flatMap FileG.own → k ∈ S.fs.flatMap FileG.own := by
  intro k h
  obtain ⟨x, hx, hkx⟩ := List.mem_flatMap.1 h
  rcases List.mem_append.1 hx with hx | hx
  · obtain ⟨j, hj, rfl⟩ := List.mem_iff_getElem.1 hx
    have hjs : j < S.fs.length := by omega
    have := hk j S.fs[j] xs[j] (List.getElem?_eq_getElem hjs) (List.getElem?_eq_getElem hj)
    refine List.mem_flatMap.2 ⟨S.fs[j], List.getElem_mem hjs, ?_⟩
    unfold FileG.own at hkx ⊢
    rw [← this.bk, ← this.vo]
    exact hkx
  · exact List.mem_flatMap.2 ⟨x, List.mem_of_mem_drop hx, hkx⟩
theorem sumB_le {l : List FileG} {M : Nat} (h : ∀ x ∈ l, x.bytes.length ≤ M) : sumB l ≤ l.length * M := by
  induction l with
  | nil => simp [sumB]
  | cons y l ih =>
    have h1 := h y (by simp)
    have h2 := ih fun x hx => h x (List.mem_cons_of_mem _ hx)
    have e : sumB (y :: l) = y.bytes.length + sumB l := by simp [sumB]
    rw [e, List.length_cons, Nat.add_mul]
    omega
def CrashP (B b m : Nat) (S : DS) (ks : List (Int × Int)) (w : World) (e : Ending) (w' : World) : Prop :=
  e = .returned (.tuple #[]) ∧ ∃ S', CrashR S ks S' ∧ DkAt B b m S' w' ∧ Only (foot b m S) w w' ∧ ∀ k ∈ foot b m S', k ∈ foot b m S
set_option maxRecDepth 100000 in
set_option maxHeartbeats 4000000 in
theorem crash_any {B b m : Nat} {S : DS} {w : World} (h : DkAt B b m S w) (hg : SOk S) (lo : Option Addr) (cap : Nat) (ks : List (Int × Int)) (hkl : ks.length ≤ cap) (hcap : cap ≤ maxLen) (hks : KAt lo ks w) (hkb : ∀ k ∈ ks, -9223372036854775808 ≤ k.1 ∧ k.1 ≤ 9223372036854775807) (hlo : ∀ a, lo = some a → a.block < w.heap.size ∧ a.block ∉ foot b m S) :
    Calls Try.prog 20 #[.pointer (some ⟨b, 0, none⟩), .slice lo ks.length cap] w (CrashP B b m S ks w) := by
  have hsl := hg.n1
  obtain ⟨n, hn⟩ : ∃ n, n = S.fs.length := ⟨_, rfl⟩
  obtain ⟨kn, hkn⟩ : ∃ kn, kn = ks.length := ⟨_, rfl⟩
  have z := fun i => free_blk h.hd i
  have c := fun i => cell_blk h.hd i
  have z1 := z 1
  have z5 := z 5
  have z6 := z 6
  have c1 := c 1
  have c5 := c 5
  have c6 := c 6
  simp only [List.getElem?_toArray] at c1 c5 c6
  obtain ⟨w0, hw0⟩ : ∃ w0, w0 = ((w.setCell ⟨b, 5, none⟩ (.bool false)).setCell ⟨b, 6, none⟩ (.bool false)).setCell ⟨b, 1, none⟩ (.int .i64 0) := ⟨_, rfl⟩
  have hd0 : DkAt B b m { S with off := false, armed := false, used := 0 } w0 := by
    refine h.head rfl (fun k hk => ?_) ?_
    · rw [hw0, heap_setCell_other _ ⟨b, 1, none⟩ _ _ hk, heap_setCell_other _ ⟨b, 6, none⟩ _ _ hk, heap_setCell_other _ ⟨b, 5, none⟩ _ _ hk]
    · rw [hw0, heap_setCell_same _ _ _ _ _ _ (heap_setCell_same _ _ _ _ _ _ (heap_setCell_same _ _ _ _ _ _ h.hd))]; rfl
  have on0 : Only (foot b m S) w w0 := by
    rw [hw0]
    exact (((Only.refl _ _).set (a := ⟨b, 5, none⟩) (.inl (by simp)) _).set (a := ⟨b, 6, none⟩) (.inl (by simp)) _).set (a := ⟨b, 1, none⟩) (.inl (by simp)) _
  have hsz0 : w0.heap.size = w.heap.size := by rw [hw0]; simp
  have CN : Hid (Calls Try.prog 24 #[.pointer (some ⟨b, 0, none⟩)] w0 (NamesP B S.fs w0)) := Lib.hid (by have := names_any hd0 (by show S.fs.length ≤ 1000; omega); exact this)
  have HN := Lib.hid hn
  have HKN := Lib.hid hkn
  have H0 := Lib.hid h
  have HG := Lib.hid hg
  have HD0 := Lib.hid hd0
  have HON := Lib.hid on0
  have HSZ := Lib.hid hsz0
  have HKS := Lib.hid hks
  have HKB := Lib.hid hkb
  have HLO := Lib.hid hlo
  have HW0 := Lib.hid hw0
  rw [← hn] at hsl
  rw [← hkn] at hkl ⊢
  unfold maxLen at hcap
  clear h hg hn hkn z c hw0 hd0 on0 hsz0 hks hkb hlo
  go_enter Try.func20, Try.ntmps20
  go_upto_region 3 with fail
  refine wp_letter (fun W => w0 = W) HW0.out ?_
  rintro _ rfl
  clear z1 z5 z6 c1 c5 c6 HW0
  go_wp2_with fail
  refine CN.out.mono ?_
  rintro e w1 ⟨na, nc, rfl, hrow, hB⟩
  have hnm : w1.ownsRow w.heap.size 9 1 (.slice na n nc) S.fs.length (S.fs.map fun f => .string ⟨f.name.toArray⟩) := by rw [HSZ.out] at hrow; rw [HN.out]; exact hrow
  have A0 : Hid (InCrash B b m S ks (.slice na n nc) 0 [] w w1) := Lib.hid ⟨rfl, (fun k f x _ hx => by cases hx), HD0.out.under hB, (HON.out).trans (Below.only hB []) (fun x hx => by cases hx), hnm⟩
  rw [← HN.out]
  clear hrow hB hnm CN
  go_wp2_with fail
  go_loopw [22] (fun ii wr => ∃ (i : Nat) (xs : List FileG), i ≤ n ∧ ii = .int .i64 i ∧ Hid (InCrash B b m S ks (.slice na n nc) i xs w wr)) (fun ii _ => n - (intOf ii).toNat)
  case atStart => exact ⟨0, [], by omega, rfl, A0⟩
  case round =>
    obtain ⟨i, xs, hi, rfl, HX⟩ := hrel
    clear A0
    by_cases hlt : i < n
    · have hii : (i : Int) < (n : Int) := by omega
      have hi0 : (0 : Int) ≤ (i : Int) := by omega
      have his : i < S.fs.length := by rw [← HN.out]; exact hlt
      obtain ⟨f, hf⟩ : ∃ f, f = S.fs[i] := ⟨_, rfl⟩
      have hfm : f ∈ S.fs := by rw [hf]; exact List.getElem_mem his
      have hnm := HX.out.nm
      obtain ⟨g, hg⟩ : ∃ g, na = some ⟨g, 0, none⟩ := by
        rcases hnm.2 with ⟨hv0, hn⟩ | ⟨g, cap, cur, hv0, _⟩
        · omega
        · injection hv0 with e1 _ _; exact ⟨g, e1⟩
      subst hg
      rw [← HN.out] at hnm
      obtain ⟨nm, hnn⟩ : ∃ nm : ByteArray, nm = ⟨f.name.toArray⟩ := ⟨_, rfl⟩
      have hcell : wr.cell? ⟨g, i, none⟩ = some (.string nm) := by
        rw [hnm.cellAt i (by omega), hnn, hf]
        simp [his]
      have hnml : nm.size ≤ maxLen := by
        rw [hnn]
        have := HG.out.m1 f hfm
        show f.name.toArray.size ≤ maxLen
        simp; unfold maxLen; omega
      have hnd : nm.data.toList = f.name := by rw [hnn]
      have hdrop : S.fs.drop i = f :: S.fs.drop (i + 1) := by rw [hf]; exact List.drop_eq_getElem_cons his
      obtain ⟨K, hK⟩ : ∃ K, K = (keepAt ks i).1 := ⟨_, rfl⟩
      obtain ⟨Z, hZ⟩ : ∃ Z, Z = (keepAt ks i).2 := ⟨_, rfl⟩
      have HF := Lib.hid hf
      have HND := Lib.hid hnd
      have HDR := Lib.hid hdrop
      have HK := Lib.hid hK
      have HZ := Lib.hid hZ
      have HNL := Lib.hid hnml
      have HFM := Lib.hid hfm
      -- memory beside the files
      have hbx : ∀ W, Below wr.heap.size wr W → InCrash B b m S ks (.slice (some ⟨g, 0, none⟩) n nc) i xs w W := fun W hb =>
        ⟨HX.out.len, HX.out.kl, HX.out.dk.under hb, HX.out.on.trans (Below.only hb []) (fun x hx => by cases hx), row_stay HX.out.nm fun k hk => hb.block k (HX.out.nm.lt k hk).2⟩
      have HBX := Lib.hid hbx
      clear hf hnn hnd hdrop hK hZ hnm hnml hfm hbx
      go_upto_if 30 with fail
      go_cut [] (fun wx => Hid (InCrash B b m S ks (.slice (some ⟨g, 0, none⟩) n nc) i xs w wx) ∧ Hid (wx.heap[wr.heap.size]? = some (.cells #[.int .i64 K, .int .i64 Z] 47 (0, 0))))
      case first =>
        obtain ⟨W, hW⟩ : ∃ W, W = wr.alloc (.cells #[.int .i64 0, .int .i64 0] 47) := ⟨_, rfl⟩
        have hbW : Below wr.heap.size wr W := by rw [hW]; exact (Below.refl _ _).alloc (Nat.le_refl _) _
        have hbox : W.heap[wr.heap.size]? = some (.cells #[.int .i64 0, .int .i64 0] 47 (0, 0)) := by rw [hW]; exact heap_alloc_new _ _
        have HW := Lib.hid hW
        have HBW := Lib.hid hbW
        have HBB := Lib.hid hbox
        refine wp_letter (fun W' => W = W') HW.out ?_
        rintro _ rfl
        have b0 := cell_blk HBB.out 0
        have b1 := cell_blk HBB.out 1
        have y0 := free_blk HBB.out 0
        have y1 := free_blk HBB.out 1
        simp only [List.getElem?_toArray] at b0 b1
        clear hW hbW hbox HW
        by_cases hk : i < kn
        · have hki : (i : Int) < (kn : Int) := by omega
          have hks : i < ks.length := by rw [← HKN.out]; exact hk
          obtain ⟨la, rfl⟩ := HKS.out.1 (by omega)
          have hkw := (HKS.out.stay (w' := W) (fun a e => by
            have h1 := HLO.out a e
            rw [HBW.out.block a.block (Nat.lt_of_lt_of_le h1.1 HX.out.on.size), HX.out.on.block a.block h1.1 h1.2])).2 la rfl i (K, Z) (by
              rw [List.getElem?_eq_getElem hks, HK.out, HZ.out]
              unfold keepAt
              simp [List.getD_eq_getElem?_getD, hks])
          obtain ⟨x0, x1⟩ := hkw
          have hkc : (i : Int) < (cap : Int) := by omega
          clear hks
          go_wp2_with fail
          go_meet
          refine ⟨Lib.hid (HBX.out _ ((HBW.out.setCell (p := ⟨wr.heap.size, 0, none⟩) (Nat.le_refl _) _).setCell (p := ⟨wr.heap.size, 1, none⟩) (Nat.le_refl _) _)), Lib.hid ?_⟩
          rw [heap_setCell_same _ _ _ _ _ _ (heap_setCell_same _ _ _ _ _ _ HBB.out)]
          rfl
        · have hki : ¬ (i : Int) < (kn : Int) := by omega
          have hkz : K = 0 ∧ Z = 0 := by
            rw [HK.out, HZ.out]
            unfold keepAt
            rw [List.getD_eq_getElem?_getD, List.getElem?_eq_none (by rw [← HKN.out]; omega)]
            exact ⟨rfl, rfl⟩
          have HKZ := Lib.hid hkz
          clear hkz
          go_wp2_with fail
          go_meet
          exact ⟨Lib.hid (HBX.out _ HBW.out), Lib.hid (by rw [HKZ.out.1, HKZ.out.2]; exact HBB.out)⟩
      case rest =>
        obtain ⟨HY, HB2⟩ := hcut
        clear HBX hcell
        have hdk := HY.out.dk
        rw [HDR.out] at hdk
        have hso := hdk.sorted
        have hlk : look (xs ++ f :: S.fs.drop (i + 1)) nm.data.toList = some f := by rw [HND.out]; exact look_mid hso
        have HLK := look_run hdk nm HNL.out
        rw [show (look ({ S with off := false, armed := false, used := ((sumB xs : Nat) : Int), fs := xs ++ f :: S.fs.drop (i + 1) } : DS).fs nm.data.toList) = some f from hlk] at HLK
        unfold ptrOf at HLK
        have hff := hdk.fl f (by simp)
        have hnodup : f.own.Nodup := by
          have hnd := hdk.nd
          simp only [List.nodup_cons] at hnd
          exact (List.pairwise_flatMap.1 hnd.2.2).1 f (by simp)
        have hKb : -9223372036854775808 ≤ K ∧ K ≤ 9223372036854775807 := by
          rw [HK.out]
          unfold keepAt
          rw [List.getD_eq_getElem?_getD]
          cases hq : ks[i]? with
          | none => simp
          | some k => exact HKB.out k (List.mem_of_getElem? hq)
        have CK := Lib.hid (keep_any hff hnodup (HG.out.s1 f HFM.out) (HG.out.b1 f HFM.out) K Z hKb)
        have c4 := cell_blk hdk.hd 4
        have k0 := cell_blk HB2.out 0
        have k1 := cell_blk HB2.out 1
        simp only [List.getElem?_toArray] at c4 k0 k1
        have HDK := Lib.hid hdk
        clear hdk hso hlk hff hnodup hKb
        go_wp2_with fail
        refine CK.out.mono ?_
        rintro e w4 ⟨rfl, v', hvo, hfx, hon4⟩
        obtain ⟨x, hx⟩ : ∃ x : FileG, x = ⟨f.name, f.blk, v', keepB f.bytes f.safe K Z, keptN f.bytes f.safe K⟩ := ⟨_, rfl⟩
        rw [← hx] at hfx
        have hsw := HDK.out.swap (a := xs) (r := S.fs.drop (i + 1)) (f := f) (x := x) rfl (by rw [hx]) (by rw [hx]) (by rw [hx]; exact hvo) hfx hon4
        obtain ⟨xa, xc, hxv⟩ := row_form hfx.row
        have f0 := cell_blk hfx.hd 0
        have d1 := cell_blk hsw.hd 1
        have dz1 := free_blk hsw.hd 1
        simp only [List.getElem?_toArray] at f0 d1
        rw [hxv] at f0
        obtain ⟨T, hT⟩ : ∃ T, T = x.bytes.length := ⟨_, rfl⟩
        have hxb : x.blk = f.blk := by rw [hx]
        have f0' : w4.cell? ⟨f.blk, 0, none⟩ = some (.slice xa T xc) := by rw [← hxb, hT]; exact f0
        obtain ⟨Q, hQ⟩ : ∃ Q : Nat, Q = sumB xs := ⟨_, rfl⟩
        have d1' : w4.cell? ⟨b, 1, none⟩ = some (.int .i64 Q) := by rw [hQ]; exact d1
        have hlen := HX.out.len
        have hT1 : T ≤ 1048576 := by
          rw [hT, hx]
          dsimp only
          rw [keepB_len]
          exact Nat.le_trans (keptN_le (HG.out.s1 f HFM.out)).2 (HG.out.b1 f HFM.out)
        have hQ1 : Q ≤ i * 1048576 := by
          rw [hQ, ← hlen]
          refine sumB_le fun y hy => ?_
          obtain ⟨j, hj, rfl⟩ := List.mem_iff_getElem.1 hy
          have hjs : j < S.fs.length := by rw [← HN.out]; omega
          have hk := HX.out.kl j S.fs[j] xs[j] (List.getElem?_eq_getElem hjs) (List.getElem?_eq_getElem hj)
          rw [hk.by_, keepB_len]
          exact Nat.le_trans (keptN_le (HG.out.s1 _ (List.getElem_mem hjs))).2 (HG.out.b1 _ (List.getElem_mem hjs))
        have hQ2 : Q ≤ 209715200 := by omega
        have hw : IntKind.i64.wrap ((Q : Int) + T) = (Q : Int) + T := by rw [IntKind.wrap_i64]; omega
        have HFIN : Hid (∀ k W, W = (w4.drewN k).setCell ⟨b, 1, none⟩ (.int .i64 ((Q : Int) + T)) → InCrash B b m S ks (.slice (some ⟨g, 0, none⟩) n nc) (i + 1) (xs ++ [x]) w W) := Lib.hid (fun k W hW => by
          have hkk : ∀ y, y ≠ b → W.heap[y]? = w4.heap[y]? := fun y hy => by rw [hW, heap_setCell_other _ ⟨b, 1, none⟩ _ _ hy]; rfl
          have hfoot : ∀ y ∈ f.own, y ∈ foot b m S := fun y hy => by simp only [foot, List.mem_cons]; exact .inr (.inr (List.mem_flatMap.2 ⟨f, HFM.out, hy⟩))
          have hbs := H0.out.lt b (by simp)
          refine ⟨by rw [List.length_append, hlen]; rfl, fun j f' x' hf' hx' => ?_, ?_, ?_, ?_⟩
          · rcases Nat.lt_or_ge j i with hj | hj
            · rw [List.getElem?_append_left (by omega)] at hx'
              exact HX.out.kl j f' x' hf' hx'
            · rw [List.getElem?_append_right (by omega), hlen] at hx'
              have hji : j = i := by
                rcases Nat.eq_or_lt_of_le hj with h | h
                · exact h.symm
                · rw [List.getElem?_eq_none (by simp; omega)] at hx'; cases hx'
              subst hji
              simp at hx'
              subst hx'
              have : f' = f := by rw [List.getElem?_eq_getElem (by rw [← HN.out]; exact hlt)] at hf'; injection hf' with e; rw [← e, HF.out]
              subst this
              rw [hx]
              exact ⟨rfl, rfl, hvo, by rw [HK.out, HZ.out], by rw [HK.out]⟩
          · have h1 := hsw.head (S' := { S with off := false, armed := false, used := ((sumB (xs ++ [x]) : Nat) : Int), fs := xs ++ x :: S.fs.drop (i + 1) }) (w' := W) rfl hkk (by
              rw [hW, heap_setCell_same (w4.drewN k) _ _ _ _ _ hsw.hd, sumB_append, hQ, hT]
              simp [sumB])
            have e : xs ++ x :: S.fs.drop (i + 1) = (xs ++ [x]) ++ S.fs.drop (i + 1) := by simp
            rw [e] at h1
            exact h1
          · rw [hW]
            exact ((HY.out.on.trans hon4 (fun y hy => .inl (hfoot y hy))).drewN k).set (a := ⟨b, 1, none⟩) (.inl (by simp)) _
          · have h1 := HY.out.nm
            refine row_stay h1 fun y hy => ?_
            have h2 := h1.lt y hy
            rw [hkk y (by omega)]
            exact hon4.block y h2.2 (fun hm => by have := H0.out.lt y (hfoot y hm); omega))
        clear hlen hT1 hQ1 hQ d1 f0 hT hxv hxb hsw hfx hx hvo hon4 CK HB2 HLK c4 k0 k1
        go_wp2_with fail
        go_region
        go_wp2_with fail
        go_roundw
        case rel => exact ⟨i + 1, xs ++ [x], by omega, by go_num, Lib.hid (HFIN.out _ _ rfl)⟩
        case measure => simp [intOf]; omega
    · obtain rfl : i = n := by omega
      have HFIN : Hid (CrashP B b m S ks w (.returned (.tuple #[])) wr) := Lib.hid (by
        have hd := HX.out.dk
        have hl := HX.out.len
        rw [List.drop_of_length_le (by rw [← HN.out]; exact Nat.le_refl _), List.append_nil] at hd
        refine ⟨rfl, _, ⟨⟨by show xs.length = S.fs.length; rw [hl, HN.out], HX.out.kl⟩, rfl⟩, hd, HX.out.on, fun k hk => ?_⟩
        simp only [foot, List.mem_cons] at hk ⊢
        rcases hk with h | h | h
        · exact .inl h
        · exact .inr (.inl h)
        · exact .inr (.inr (foot_mid (b := b) (m := m) hl (by rw [← HN.out]; omega) HX.out.kl k (List.mem_flatMap.2 (by
            obtain ⟨y, hy, hky⟩ := List.mem_flatMap.1 h
            exact ⟨y, List.mem_append_left _ hy, hky⟩)))))
      go_wp2_with fail
      go_end0
      exact HFIN.out
theorem crash_nil (v : Value) (w : World) : Calls Try.prog 20 #[.pointer none, v] w fun e w' => e = .returned (.tuple #[]) ∧ w = w' := by
  go_enter Try.func20, Try.ntmps20
  go_wp2_with fail
  exact bodyPost_ret (results_none rfl _ _ _) rfl ⟨rfl, rfl⟩
end Go.Proofs.Ytajcnendlcjeaaa
