/- What the Go function Append of package disk answers. Conditions: those written at each theorem. -/
import Derived.Test.YtajcnendlcjeaaaDkD
namespace Go.Proofs.Ytajcnendlcjeaaa
open Go.RowKit Go.Maps Go.WideShapes
set_option linter.unusedVariables false
set_option linter.unusedSimpArgs false

/-- A disk within its bounds. -/
structure SOk (S : DS) : Prop where
  u0 : 0 ≤ S.used
  u1 : S.used ≤ S.room
  r1 : S.room ≤ 16777216
  w0 : 0 ≤ S.written
  w1 : S.written ≤ 4611686018427387904
  c0 : 0 ≤ S.calls
  c1 : S.calls ≤ 4611686018427387904
  l0 : 0 ≤ S.left
  l1 : S.left ≤ 9223372036854775807
  n1 : S.fs.length ≤ 200
  b1 : ∀ f ∈ S.fs, f.bytes.length ≤ 1048576
  s1 : ∀ f ∈ S.fs, f.safe ≤ f.bytes.length
  m1 : ∀ f ∈ S.fs, f.name.length ≤ 24
/-- What is appended, and where. -/
def AppendR (S : DS) (n d : List UInt8) (S' : DS) (e : Int) : Prop :=
  if (beginS S [n]).2 ≠ 0 then S' = (beginS S [n]).1 ∧ e = (beginS S [n]).2
  else if look S.fs n = none ∧ 200 ≤ S.fs.length then S' = (beginS S [n]).1 ∧ e = 4
  else if 1048576 - (((look S.fs n).map (·.bytes.length)).getD 0 : Nat) < (d.length : Int) then S' = (beginS S [n]).1 ∧ e = 4
  else if S.room - S.used < d.length then S' = (beginS S [n]).1 ∧ e = 5
  else e = 0 ∧ ∃ x : FileG, x.name = n ∧ x.bytes = ((look S.fs n).map (·.bytes)).getD [] ++ d ∧ x.safe = ((look S.fs n).map (·.safe)).getD 0 ∧
    S' = { (beginS S [n]).1 with used := S.used + d.length, written := S.written + d.length, fs := putF S.fs x }
def AppendP (B b m : Nat) (S : DS) (n d : List UInt8) (w : World) (e : Ending) (w' : World) : Prop :=
  ∃ S' E, e = .returned (.int .i64 E) ∧ AppendR S n d S' E ∧ DkAt B b m S' w' ∧ Only (foot b m S) w w' ∧ ∀ k ∈ foot b m S', k ∈ foot b m S ∨ w.heap.size ≤ k
theorem beginS_room (S : DS) (ns : List (List UInt8)) : (beginS S ns).1.room = S.room ∧ (beginS S ns).1.used = S.used ∧ (beginS S ns).1.written = S.written := by
  unfold beginS
  split
  · exact ⟨rfl, rfl, rfl⟩
  · split
    · exact ⟨rfl, rfl, rfl⟩
    · dsimp only; split <;> exact ⟨rfl, rfl, rfl⟩
theorem SAt.one (w : World) (s : ByteArray) (T : TypeId) : SAt (some ⟨w.heap.size, 0, none⟩) (strs [s]) (w.alloc (.cells #[.string s] T)) :=
  ⟨fun _ => ⟨_, rfl⟩, fun a e i u hu => by
    cases e
    match i, hu with
    | 0, hu => simp [strs] at hu; subst hu; simp [Addr.add]⟩
theorem begin_one {B b m : Nat} {S : DS} {w : World} (h : DkAt B b m S w) (hg : SOk S) (s : ByteArray) (T : TypeId) :
    Calls Try.prog 37 #[.pointer (some ⟨b, 0, none⟩), .slice (some ⟨w.heap.size, 0, none⟩) 1 1] (w.alloc (.cells #[.string s] T)) fun e w' => e = .returned (.int .i64 (beginS S [s.data.toList]).2) ∧ DkAt B b m (beginS S [s.data.toList]).1 w' ∧ Only [b] w w' := by
  have hb : b < w.heap.size := h.lt b (by simp)
  refine (begin_any (h.under ((Below.refl _ _).alloc (Nat.le_refl _) (.cells #[.string s] T))) (some ⟨w.heap.size, 0, none⟩) 1 [s] (by simp) (SAt.one w s T) (fun a e => by cases e; show w.heap.size ≠ b; omega) ⟨hg.c0, hg.c1⟩ ⟨hg.l0, hg.l1⟩).mono fun e w' ⟨h1, h2, h3⟩ => ⟨h1, h2, ?_⟩
  exact ((Only.refl [b] w).alloc _).trans h3 (fun x hx => .inl hx)
/-- What stands where a file is to be appended to. -/
structure Spot (B b m : Nat) (S : DS) (n : List UInt8) (w wx : World) (x : FileG) : Prop where
  dk : DkAt B b m (beginS S [n]).1 wx
  fl : FileAt B x wx
  nm : x.name = n
  by_ : x.bytes = ((look S.fs n).map (·.bytes)).getD []
  sf : x.safe = ((look S.fs n).map (·.safe)).getD 0
  nd : x.own.Nodup
  nw : ∀ k ∈ x.own, (∃ f, look S.fs n = some f ∧ k ∈ f.own) ∨ w.heap.size ≤ k ∧ k ∉ foot b m S
  on : Only [b] w wx
  ln : x.bytes.length ≤ 1048576
set_option maxRecDepth 100000 in
set_option maxHeartbeats 2000000 in
theorem append_any {B b m : Nat} {S : DS} {w : World} (h : DkAt B b m S w) (hg : SOk S) (hB : B ≤ w.heap.size) (name data : ByteArray) (hn : name.size ≤ maxLen) (hd : data.size ≤ maxLen) :
    Calls Try.prog 18 #[.pointer (some ⟨b, 0, none⟩), .string name, .string data] w (AppendP B b m S name.data.toList data.data.toList w) := by
  have C1 := Lib.hid (begin_one h hg name 9)
  have H0 := Lib.hid h
  have HG := Lib.hid hg
  obtain ⟨S1, hS1⟩ : ∃ S1, S1 = (beginS S [name.data.toList]).1 := ⟨_, rfl⟩
  obtain ⟨E1, hE1⟩ : ∃ E1, E1 = (beginS S [name.data.toList]).2 := ⟨_, rfl⟩
  have hfs := beginS_fs S [name.data.toList]
  obtain ⟨r1, r2, r3⟩ := beginS_room S [name.data.toList]
  rw [← hS1] at hfs r1 r2 r3
  rw [← hS1, ← hE1] at C1
  have HS1 := Lib.hid hS1
  have HE1 := Lib.hid hE1
  have hdl : data.data.toList.length = data.size := rfl
  have HD := Lib.hid hdl
  unfold maxLen at hd
  -- an answer that changes the count alone
  have stop : Hid (∀ (w' : World) (E : Int), DkAt B b m S1 w' → Only [b] w w' → AppendR S name.data.toList data.data.toList S1 E → AppendP B b m S name.data.toList data.data.toList w (.returned (.int .i64 E)) w') := Lib.hid (fun w' E h1 h2 h3 =>
    ⟨S1, E, rfl, h3, h1, h2.mono (fun x hx => by simp at hx; subst hx; simp), fun k hk => .inl (by simpa [foot, hfs] using hk)⟩)
  have HFS := Lib.hid hfs
  clear h hg hS1 hE1 hdl hfs
  go_enter Try.func18, Try.ntmps18
  go_wp2_with fail
  refine C1.out.mono ?_
  rintro e w1 ⟨rfl, hD1, hO1⟩
  have D1 := Lib.hid hD1
  have O1 := Lib.hid hO1
  clear C1 hO1
  by_cases e0 : E1 = 0
  case neg =>
    have q : (E1 == 0) = false := by rw [beq_eq_false_iff_ne]; exact e0
    have HF := Lib.hid (stop.out w1 E1 hD1 O1.out (by unfold AppendR; rw [← HE1.out, if_pos e0, ← HS1.out]; exact ⟨rfl, rfl⟩))
    clear hD1 stop
    go_wp2_with fail
    go_ret
    exact HF.out
  subst e0
  have hR : Hid (∀ (P : Prop) (S' : DS) (E : Int), AppendR S name.data.toList data.data.toList S' E = if look S.fs name.data.toList = none ∧ 200 ≤ S.fs.length then S' = S1 ∧ E = 4
      else if 1048576 - (((look S.fs name.data.toList).map (·.bytes.length)).getD 0 : Nat) < (data.size : Int) then S' = S1 ∧ E = 4
      else if S.room - S.used < data.size then S' = S1 ∧ E = 5
      else E = 0 ∧ ∃ x : FileG, x.name = name.data.toList ∧ x.bytes = ((look S.fs name.data.toList).map (·.bytes)).getD [] ++ data.data.toList ∧ x.safe = ((look S.fs name.data.toList).map (·.safe)).getD 0 ∧
        S' = { S1 with used := S.used + data.size, written := S.written + data.size, fs := putF S.fs x }) := Lib.hid (fun _ S' E => by
    unfold AppendR
    rw [if_neg (by rw [← HE1.out]; simp), ← HS1.out]
    rfl)
  have c4 := cell_blk hD1.hd 4
  simp only [List.getElem?_toArray] at c4
  have HL := look_run hD1 name hn
  rw [HFS.out] at HL
  have hlen := len_run hD1 3
  rw [HFS.out] at hlen
  obtain ⟨o, ho⟩ : ∃ o, o = look S.fs name.data.toList := ⟨_, rfl⟩
  rw [← ho] at HL
  obtain ⟨q, hq⟩ : ∃ q : Option Addr, ptrOf o = .pointer q := by cases o with
    | some f => exact ⟨_, rfl⟩
    | none => exact ⟨_, rfl⟩
  rw [hq] at HL
  have HO := Lib.hid ho
  have HQ := Lib.hid hq
  clear ho hD1 hq
  go_upto_if 23 with fail
  go_cut [8] (fun v wx => ∃ x : FileG, v = .pointer (some ⟨x.blk, 0, none⟩) ∧ Hid (Spot B b m S name.data.toList w wx x ∧ ¬ (o = none ∧ 200 ≤ S.fs.length)))
  case first =>
    cases o with
    | some f =>
      obtain rfl : some ⟨f.blk, 0, none⟩ = q := by have := HQ.out; injection this
      go_wp2_with fail
      go_meet
      refine ⟨f, rfl, Lib.hid ⟨?_, (fun e => by cases e.1)⟩⟩
      have hm := look_mem HO.out.symm
      have hm1 : f ∈ S1.fs := by rw [HFS.out]; exact hm.1
      have hnd := D1.out.nd
      simp only [List.nodup_cons] at hnd
      exact ⟨by rw [← HS1.out]; exact D1.out, D1.out.fl f hm1, hm.2, by rw [← HO.out]; rfl, by rw [← HO.out]; rfl, (List.pairwise_flatMap.1 hnd.2.2).1 f hm1, fun k hk => .inl ⟨f, HO.out.symm, hk⟩, O1.out, HG.out.b1 f hm.1⟩
    | none =>
      obtain rfl : none = q := by have := HQ.out; injection this
      by_cases h200 : 200 ≤ S.fs.length
      · have h2 : (200 : Int) ≤ (S.fs.length : Int) := by omega
        have HF := Lib.hid (stop.out w1 4 D1.out O1.out (by rw [hR.out True, if_pos ⟨HO.out.symm, h200⟩]; exact ⟨rfl, rfl⟩))
        clear stop hR
        go_wp2_with fail
        go_ret
        exact HF.out
      · have h2 : ¬ (200 : Int) ≤ (S.fs.length : Int) := by omega
        go_wp2_with fail
        go_meet
        refine ⟨⟨name.data.toList, w1.heap.size, .slice none 0 0, [], 0⟩, rfl, Lib.hid ⟨?_, fun e => h200 e.2⟩⟩
        have hsz := O1.out.size
        refine ⟨by rw [← HS1.out]; exact D1.out.under ((Below.refl _ _).alloc (Nat.le_refl _) _), ⟨heap_alloc_new w1 _, World.ownsRow_nil _ _ _ _⟩, rfl, by rw [← HO.out]; rfl, by rw [← HO.out]; rfl, by simp [FileG.own, Value.ownBlock], fun k hk => .inr ?_, O1.out.alloc _, by simp⟩
        have hk' : k = w1.heap.size := by simpa [FileG.own, Value.ownBlock] using hk
        subst hk'
        exact ⟨hsz, fun hm => by have := H0.out.lt _ hm; omega⟩
  case rest =>
    obtain ⟨x, rfl, HX⟩ := hcut
    clear HL hlen c4 D1 O1
    have hdk : DkAt B b m S1 wc := by rw [HS1.out]; exact HX.out.1.dk
    have hfl := HX.out.1.fl
    obtain ⟨va, vc, hv⟩ := row_form hfl.row
    have f0 := cell_blk hfl.hd 0
    simp only [List.getElem?_toArray] at f0
    rw [hv] at f0
    obtain ⟨L, hL⟩ : ∃ L, L = x.bytes.length := ⟨_, rfl⟩
    have hL1 : L ≤ 1048576 := by rw [hL]; exact HX.out.1.ln
    have f0' : wc.cell? ⟨x.blk, 0, none⟩ = some (.slice va L vc) := by rw [f0, hL]; rfl
    have HLL := Lib.hid hL
    have HV : Hid (x.v = .slice va L vc) := Lib.hid (by rw [hL]; exact hv)
    have CF := Lib.hid (free_any hdk (by rw [r2]; exact HG.out.u0) (by rw [r2, r1]; exact HG.out.u1) (by rw [r1]; exact HG.out.r1))
    rw [r1, r2] at CF
    have HDK := Lib.hid hdk
    have HFL := Lib.hid hfl
    have hLo : (((look S.fs name.data.toList).map (·.bytes.length)).getD 0 : Nat) = L := by
      have := HX.out.1.by_
      rw [hL, this]
      cases look S.fs name.data.toList <;> rfl
    have HLo := Lib.hid hLo
    have hgr := HG.out.r1
    have hgu := HG.out.u0
    obtain ⟨F, hF⟩ : ∃ F, S.room - S.used = F := ⟨_, rfl⟩
    have hF1 : F ≤ 16777216 := by omega
    rw [hF] at CF hR
    clear hL hv hdk hfl f0 hLo hgr hgu
    by_cases t1 : 1048576 - (L : Int) < (data.size : Int)
    · have HF := Lib.hid (stop.out wc 4 HDK.out HX.out.1.on (by rw [hR.out True, if_neg (by rw [← HO.out]; exact HX.out.2), if_pos (by rw [HLo.out]; exact t1)]; exact ⟨rfl, rfl⟩))
      clear stop hR
      go_wp2_with fail
      go_ret
      exact HF.out
    · have HR1 : Hid (∀ S' E, AppendR S name.data.toList data.data.toList S' E = if F < data.size then S' = S1 ∧ E = 5
          else E = 0 ∧ ∃ x : FileG, x.name = name.data.toList ∧ x.bytes = ((look S.fs name.data.toList).map (·.bytes)).getD [] ++ data.data.toList ∧ x.safe = ((look S.fs name.data.toList).map (·.safe)).getD 0 ∧
            S' = { S1 with used := S.used + data.size, written := S.written + data.size, fs := putF S.fs x }) := Lib.hid (fun S' E => by rw [hR.out True, if_neg (by rw [← HO.out]; exact HX.out.2), if_neg (by rw [HLo.out]; exact t1)])
      clear hR
      go_wp2_with fail
      refine CF.out.mono ?_
      rintro e w3 ⟨rfl, kk, hw3⟩
      have hh3 : ∀ k : Nat, w3.heap[k]? = wc.heap[k]? := fun k => by rw [hw3]; rfl
      have HDK3 := Lib.hid (HDK.out.stay fun k _ => hh3 k)
      have HO3 : Hid (Only [b] w w3) := Lib.hid (by rw [hw3]; exact HX.out.1.on.drewN kk)
      have HFL3 := Lib.hid (HFL.out.stay fun k _ => hh3 k)
      have HSZ3 : Hid (w3.heap.size = wc.heap.size) := Lib.hid (by rw [hw3]; rfl)
      clear hw3 CF
      by_cases t2 : F < (data.size : Int)
      · have HF := Lib.hid (stop.out w3 5 HDK3.out HO3.out (by rw [HR1.out, if_pos t2]; exact ⟨rfl, rfl⟩))
        clear stop HR1
        go_wp2_with fail
        go_ret
        exact HF.out
      · have g0 := cell_blk HFL3.out.hd 0
        simp only [List.getElem?_toArray] at g0
        have g0' : w3.cell? ⟨x.blk, 0, none⟩ = some (.slice va L vc) := by rw [g0, HV.out]; rfl
        have z0 := free_blk HFL3.out.hd 0
        have hrow : w3.ownsRow B 5 1 (.slice va L vc) L (u8s x.bytes) := by have := HFL3.out.row; rw [← HLL.out, HV.out] at this; exact this
        have hle3 : B ≤ w3.heap.size := Nat.le_trans hB HO3.out.size
        obtain ⟨v', w4, hr, hrow4, hg4, hnew4⟩ := app_run B 60 _ _ _ hrow data (by omega) hle3
        have HVF := Lib.hid (row_form hrow4)
        have hown := HX.out.1.nd
        have hxb : ∀ g, x.v.ownBlock = some g → g ≠ x.blk := fun g hg' e => by
          unfold FileG.own at hown
          rw [hg'] at hown
          simp at hown
          exact hown e.symm
        have hblk4 : w4.heap[x.blk]? = some (.cells #[x.v, .int .i64 x.safe] 70 (0, 0)) := by
          rw [hg4.block x.blk (HFL3.out.lt _ (by simp [FileG.own])) (fun e => hxb x.blk (by rw [HV.out]; exact e.symm) rfl)]
          exact HFL3.out.hd
        have k0 := cell_blk hblk4 0
        simp only [List.getElem?_toArray] at k0
        have k0' : w4.cell? ⟨x.blk, 0, none⟩ = some (.slice va L vc) := by rw [k0, HV.out]; rfl
        have y0 := free_blk hblk4 0
        -- the file behind the append
        obtain ⟨x', hx'⟩ : ∃ x' : FileG, x' = ⟨x.name, x.blk, v', x.bytes ++ data.data.toList, x.safe⟩ := ⟨_, rfl⟩
        have hnm := HX.out.1.nm
        have hnw := HX.out.1.nw
        have hne : ∀ k ∈ x.own, k ≠ b ∧ k ≠ m := fun k hk => by
          rcases hnw k hk with ⟨f, hf, hkf⟩ | ⟨_, hno⟩
          · exact own_bm H0.out (look_mem hf).1 hkf
          · exact ⟨fun e => hno (by rw [e]; simp), fun e => hno (by rw [e]; simp)⟩
        have hdj : ∀ f ∈ delF S.fs name.data.toList, ∀ k ∈ f.own, k ∉ x.own := fun f hf k hk hkx => by
          obtain ⟨h1, h2⟩ := mem_delF.1 hf
          rcases hnw k hkx with ⟨f0, hf0, hkf⟩ | ⟨_, hno⟩
          · obtain ⟨h3, h4⟩ := look_mem hf0
            exact own_disj H0.out h1 h3 (by rw [h4]; exact h2) hk hkf
          · exact hno (by simp only [foot, List.mem_cons]; exact .inr (.inr (List.mem_flatMap.2 ⟨f, h1, hk⟩)))
        have hfoot : ∀ k ∈ x.own, k ∈ foot b m S ∨ w.heap.size ≤ k := fun k hk => by
          rcases hnw k hk with ⟨f, hf, hkf⟩ | ⟨hge, _⟩
          · exact .inl (by simp only [foot, List.mem_cons]; exact .inr (.inr (List.mem_flatMap.2 ⟨f, (look_mem hf).1, hkf⟩)))
          · exact .inr hge
        have hvo : (Value.slice va L vc).ownBlock = x.v.ownBlock := by rw [HV.out]
        rw [hvo] at hg4
        have hsz3 := HO3.out.size
        have hv'x : ∀ g, v'.ownBlock = some g → (g ∈ x.own ∧ g ≠ x.blk) ∨ w3.heap.size ≤ g := fun g hg' => by
          rcases hnew4 g hg' with h1 | h1
          · rw [hvo] at h1
            exact .inl ⟨by simp [FileG.own, h1], hxb g h1⟩
          · exact .inr h1
        have hxlt : x.blk < w3.heap.size := HFL3.out.lt _ (by simp [FileG.own])
        have hbx : x.blk ∈ x.own := by simp [FileG.own]
        -- behind the store
        obtain ⟨w5, hw5⟩ : ∃ w5, w5 = w4.setCell ⟨x.blk, 0, none⟩ v' := ⟨_, rfl⟩
        have hk5 : ∀ k, k < w3.heap.size → k ∉ x.own → w5.heap[k]? = w3.heap[k]? := fun k hk hno => by
          rw [hw5, heap_setCell_other _ ⟨x.blk, 0, none⟩ _ _ (fun e => hno (by rw [e]; exact hbx)), hg4.block k hk (fun e => hno (by simp [FileG.own, ← e]))]
        have hlt3 := HDK3.out.lt
        have hd5 : w5.heap[b]? = some (.cells #[.int .i64 S1.room, .int .i64 S1.used, .int .i64 S1.written, .int .i64 S1.calls, .map (some m), .bool S1.off, .bool S1.armed, .int .i64 S1.left] 64 (0, 0)) :=
          (hk5 b (hlt3 b (by simp)) (fun h => (hne b h).1 rfl)).trans HDK3.out.hd
        have mp5 : w5.ownsMap Try.prog 9 rp m S1.fs.length (mkD S1.fs) := map_stay HDK3.out.mp (hk5 m (hlt3 m (by simp)) (fun h => (hne m h).2 rfl))
        have fl5 : FileAt B x' w5 := by
          subst hx'
          refine ⟨?_, ?_⟩
          · rw [hw5, heap_setCell_same _ _ _ _ _ _ hblk4]; rfl
          · have : (x.bytes ++ data.data.toList).length = L + data.size := by rw [List.length_append, HLL.out]; rfl
            dsimp only
            rw [this, show u8s (x.bytes ++ data.data.toList) = u8s x.bytes ++ u8s data.data.toList from List.map_append]
            refine row_stay hrow4 fun g hg' => ?_
            rw [hw5, heap_setCell_other _ ⟨x.blk, 0, none⟩ _ _ (fun e => ?_)]
            have e : g = x.blk := e
            rcases hv'x g hg' with h1 | h1
            · exact h1.2 e
            · omega
        have on5 : Only (foot b m S) w w5 := by
          rw [hw5]
          refine ((HO3.out.mono (G := foot b m S) (fun y hy => by simp at hy; subst hy; simp)).grown hg4 (fun k hk => hfoot k (by simp [FileG.own, hk]))).set (a := ⟨x.blk, 0, none⟩) (hfoot x.blk hbx) _
        have hnx' : x'.name = name.data.toList := by rw [hx', ← hnm]
        obtain ⟨w6, hrun6, hown6, hg6⟩ := mp5.update strK Try.underlying62 (by have := HG.out.n1; rw [HFS.out]; unfold maxLen; omega) (key_str name hn) (rp_at x.blk)
        rw [← hnx', show ((x.blk : Nat) : Int) = ((x'.blk : Nat) : Int) by rw [hx'], mkD_put] at hown6
        have hd6 := (hg6.block b (by rw [hw5]; simp only [World.size_setCell]; exact Nat.lt_of_lt_of_le (hlt3 b (by simp)) hg4.size) (fun e => by have := H0.out.nd; simp at this; injection e with e; exact this.1.1 e)).trans hd5
        obtain ⟨U, hU⟩ : ∃ U : Int, S.used + data.size = U := ⟨_, rfl⟩
        obtain ⟨R, hRw⟩ : ∃ R : Int, S.written + data.size = R := ⟨_, rfl⟩
        have hgo := HG.out
        have wU : IntKind.i64.wrap U = U := by have h1 := hgo.u0; have h2 := hgo.u1; have h3 := hgo.r1; rw [IntKind.wrap_i64]; omega
        have wR : IntKind.i64.wrap R = R := by have h1 := hgo.w0; have h2 := hgo.w1; rw [IntKind.wrap_i64]; omega
        have hsz5 : w3.heap.size ≤ w5.heap.size := by rw [hw5]; simpa using hg4.size
        have HF : Hid (∀ w8, w8 = (w6.setCell ⟨b, 1, none⟩ (.int .i64 U)).setCell ⟨b, 2, none⟩ (.int .i64 R) → AppendP B b m S name.data.toList data.data.toList w (.returned (.int .i64 0)) w8) := Lib.hid (fun w8 h8 => by
          have hk8 : ∀ k, k ≠ b → w8.heap[k]? = w6.heap[k]? := fun k hk => by rw [h8, heap_setCell_other _ ⟨b, 2, none⟩ _ _ hk, heap_setCell_other _ ⟨b, 1, none⟩ _ _ hk]
          have hk6 : ∀ k, k < w5.heap.size → k ≠ b → k ≠ m → w8.heap[k]? = w5.heap[k]? := fun k hk h1 h2 => (hk8 k h1).trans (hg6.block k hk (fun e => h2 (by injection e)))
          have hown' : ∀ k ∈ x'.own, k ∈ x.own ∨ w3.heap.size ≤ k := fun k hk => by
            rw [hx'] at hk
            simp only [FileG.own, List.mem_cons, Option.mem_toList] at hk
            rcases hk with rfl | hk
            · exact .inl hbx
            · exact (hv'x k hk).elim (fun h => .inl h.1) .inr
          have hlt' := fl5.lt
          have hbm3 : b < w3.heap.size ∧ m < w3.heap.size := ⟨hlt3 b (by simp), hlt3 m (by simp)⟩
          have hne' : ∀ k ∈ x'.own, k ≠ b ∧ k ≠ m := fun k hk => (hown' k hk).elim (hne k) (fun h => ⟨by omega, by omega⟩)
          have hput := HDK.out.put (S' := { S1 with used := S.used + data.size, written := S.written + data.size, fs := putF S1.fs x' }) (w' := w8) x' rfl
            (by rw [h8, heap_setCell_same _ _ _ _ _ _ (heap_setCell_same _ _ _ _ _ _ hd6), hU, hRw]; rfl)
            ⟨_, map_stay hown6 (hk8 m (fun e => (by have := H0.out.nd; simp at this; exact this.1.1 e.symm)))⟩
            (fl5.stay fun k hk => hk6 k (hlt' k hk) (hne' k hk).1 (hne' k hk).2)
            (by
              rw [hx']
              simp only [FileG.own]
              cases hvo' : v'.ownBlock with
              | none => simp
              | some g =>
                simp only [Option.toList_some, List.nodup_cons, List.mem_singleton, List.not_mem_nil, not_false_eq_true, List.nodup_nil, and_true]
                rcases hv'x g hvo' with h1 | h1
                · exact fun e => h1.2 e.symm
                · intro e; omega)
            (fun k hk => by
              rcases hown' k hk with h1 | h1
              · rcases hfoot k h1 with h2 | h2
                · exact H0.out.lo k h2
                · omega
              · omega)
            (fun k hk => by
              rw [HFS.out, hnx']
              rcases hown' k hk with h1 | h1
              · rcases hnw k h1 with h2 | ⟨_, h2⟩
                · exact .inl h2
                · exact .inr (by simpa [foot, HFS.out] using h2)
              · exact .inr (fun hm => by have := HDK3.out.lt k hm; omega))
            (fun f hf k hk => by
              rw [HFS.out, hnx'] at hf
              have h1 := hdj f hf k hk
              have h2 := own_bm H0.out (mem_delF.1 hf).1 hk
              have h3 : k < w3.heap.size := (HDK3.out.fl f (by rw [HFS.out]; exact (mem_delF.1 hf).1)).lt k hk
              rw [hk6 k (by omega) h2.1 h2.2, hk5 k h3 h1, hh3 k])
          refine ⟨_, 0, rfl, ?_, hput.1, ?_, fun k hk => ?_⟩
          · rw [HR1.out, if_neg t2]
            refine ⟨rfl, x', hnx', ?_, ?_, ?_⟩
            · rw [hx', ← HX.out.1.by_]
            · rw [hx', ← HX.out.1.sf]
            · rw [HFS.out]
          · rw [h8]
            exact ((on5.grown hg6 (fun k hk => .inl (by injection hk with hk; rw [← hk]; simp))).set (a := ⟨b, 1, none⟩) (.inl (by simp)) _).set (a := ⟨b, 2, none⟩) (.inl (by simp)) _
          · rcases hput.2 k hk with h1 | h1
            · exact .inl (by simpa [foot, HFS.out] using h1)
            · rcases hown' k h1 with h2 | h2
              · exact hfoot k h2
              · exact .inr (by omega))
        have c4 := cell_blk hd5 4
        have e1 := cell_blk hd6 1
        have e2 := cell_blk hd6 2
        have y1 := free_blk hd6 1
        have y2 := free_blk hd6 2
        simp only [List.getElem?_toArray] at c4 e1 e2
        have c4' : w5.cell? ⟨b, 4, none⟩ = some (.map (some m)) := c4
        have e1' : w6.cell? ⟨b, 1, none⟩ = some (.int .i64 S.used) := by rw [e1, r2]; rfl
        have e2' : w6.cell? ⟨b, 2, none⟩ = some (.int .i64 S.written) := by rw [e2, r3]; rfl
        have HW5 := Lib.hid hw5
        generalize S.used = u0 at *
        generalize S.written = q0 at *
        clear c4 e1 e2 g0 k0 hw5 hd5 hd6 mp5 fl5 on5 hnx' hown6 hg6 hne hdj hfoot hvo hsz3 hv'x hxlt hbx hk5 hlt3 hsz5 hgo hxb hown hblk4 hrow4 hg4 hnew4 hrow hle3 hnm hnw hx' HR1 stop f0' r1 r2 r3 hh3
        obtain ⟨na, nc, rfl⟩ := HVF.out
        go_upto_region 14 with (at_builtin; refine wpList_appStr rfl _ _ rfl _ _ _ rfl rfl hr ?_)
        refine wp_letter (fun W => W = w5) HW5.out.symm ?_
        rintro _ rfl
        clear HW5 hr
        go_wp2_with (at_mapUpdate; refine wpList_upd rfl _ _ _ _ rfl _ _ _ rfl rfl rfl hrun6 ?_)
        go_ret
        exact HF.out _ rfl
end Go.Proofs.Ytajcnendlcjeaaa
