/- The law SkipNumbers walked: for every numbers the call returns true. Condition: the library's table of trailing zeros stands in memory. -/
import Derived.Test.YtnganclkjoiggaaDoorSkRn
namespace Go.Proofs.YtnganclkjoiggaaDoor
open Go.RowKit Go.Maps Go.WideShapes
set_option linter.unusedVariables false
set_option linter.unusedSimpArgs false
namespace sn
def iv (x : Int) : Value := .int .i64 x
/-- A map, its keys, and the list of what was put. -/
structure StAt (w : World) (B m : Nat) (H : Nd) (ns : List Nd) (ka : Option Addr) (gl kc : Nat) (va : Option Addr) (vc : Nat) (ps : List Int) (wr : World) : Prop where
  sk : ∃ mx, SkAt B m H mx ns wr
  kr : wr.ownsRow B 2 1 (.slice ka gl kc) gl (ns.map kv)
  pr : wr.ownsRow B 2 1 (.slice va ps.length vc) ps.length (ps.map iv)
  bel : Below w.heap.size w wr
theorem StAt.under {w : World} {B m : Nat} {H : Nd} {ns : List Nd} {ka : Option Addr} {gl kc : Nat} {va : Option Addr} {vc : Nat} {ps : List Int} {wr w' : World} (h : StAt w B m H ns ka gl kc va vc ps wr) (k : Below wr.heap.size wr w') : StAt w B m H ns ka gl kc va vc ps w' := by
  obtain ⟨mx, hs⟩ := h.sk
  exact ⟨⟨mx, hs.under k⟩, row_stay h.kr fun g hg => k.block g (h.kr.lt g hg).2, row_stay h.pr fun g hg => k.block g (h.pr.lt g hg).2, below_mono h.bel k (Nat.le_refl _)⟩
theorem row_mono {B B' n z : Nat} {e : TypeId} {v : Value} {xs : List Value} {w : World} (h : w.ownsRow B' e z v n xs) (hB : B ≤ B') : w.ownsRow B e z v n xs := by
  refine ⟨h.1, ?_⟩
  rcases h.2 with hn | ⟨g, cap, cur, hv, hb, rest⟩
  · exact .inl hn
  · exact .inr ⟨g, cap, cur, hv, Nat.le_trans hB hb, rest⟩
/-- While it is put. -/
structure PuAt (w : World) (B m : Nat) (H : Nd) (ns : List Nd) (ps : List Int) (j : Nat) (wr : World) : Prop where
  sk : ∃ mx, SkAt B m H mx ns wr
  pt : PutsR ps j ns
  cnt : ns.length ≤ j
  bel : Below w.heap.size w wr
  base : w.heap.size ≤ B
theorem PuAt.put {w : World} {B m : Nat} {H : Nd} {ns : List Nd} {ps : List Int} {j : Nat} {wr : World} (h : PuAt w B m H ns ps j wr) {x : Int} (hx : ps[j]? = some x) (hj : j ≤ 1000) (hg : 0 < B) {B' n : Nat} {v : Value} {xs : List Value} (hr : wr.ownsRow B' 2 1 v n xs) (W : World) (hb : Below wr.heap.size wr W) (hT : TzAt W) :
    Calls Tryd.prog 19 #[.pointer (some ⟨m, 0, none⟩), .int .i64 x, .string (strOfNums [(j : Int)])] W fun e w' => (∃ (a : ByteArray) (b : Bool), e = .returned (.tuple #[.string a, .bool b])) ∧ (∃ ns', PuAt w B m H ns' ps (j + 1) w') ∧ w'.ownsRow B' 2 1 v n xs := by
  obtain ⟨mx, hs⟩ := h.sk
  have hs2 := hs.under hb
  have hr2 := row_stay hr fun g hg => hb.block g (hr.lt g hg).2
  refine (put_any hs2 x _ hT hg hs2.base (by have := h.cnt; omega)).mono fun e w' ⟨ns', mx', a, b, h1, h2, h3, h4, h5⟩ => ⟨⟨a, b, h1⟩, ⟨ns', ⟨mx', h3⟩, h.pt.step hx h2 hs.so, by have := h2.len; have := h.cnt; omega, ?_, h.base⟩, hs2.row h4 hr2 kinds3⟩
  have hb2 := below_mono h.bel hb (Nat.le_refl _)
  exact hs2.lift h4 h.base hb2.size hb2
set_option maxRecDepth 100000 in
set_option maxHeartbeats 32000000 in
theorem skipNumbers_walk (ao : Option Addr) (cap : Nat) (ps : List Int) (bo : Option Addr) (cap2 : Nat) (ds : List Int) (wc : ps.length ≤ cap) (wm : cap ≤ maxLen) (wx : ∀ x ∈ ps, (Lit.int .i64 x).wf = true) (vc2 : ds.length ≤ cap2) (vm2 : cap2 ≤ maxLen) (vx : ∀ x ∈ ds, (Lit.int .i64 x).wf = true) (w : World) (hT : TzAt w) (hs : VAt w.heap.size ao (ps.map (Value.int .i64)) w) (hs2 : VAt w.heap.size bo (ds.map (Value.int .i64)) w) :
    Calls Tryd.prog 4 #[.slice ao ps.length cap, .slice bo ds.length cap2] w fun e w' => e = .returned (.bool true) ∧ Below w.heap.size w w' := by
  obtain ⟨n, hn⟩ : ∃ n, n = ps.length := ⟨_, rfl⟩
  obtain ⟨d, hd⟩ : ∃ n, n = ds.length := ⟨_, rfl⟩
  rw [← hn, ← hd]
  have HN := Lib.hid hn
  have HD := Lib.hid hd
  have CA := Lib.hid (sk.awake_any w hT)
  have hm : n ≤ maxLen := by omega
  have hm2 : d ≤ maxLen := by omega
  unfold maxLen at hm hm2
  have HT : Hid (∀ W, Below w.heap.size w W → TzAt W) := Lib.hid fun W hb => hT.next hb
  have HG : Hid (0 < w.heap.size) := Lib.hid hT.pos
  have HS : Hid (∀ W, Below w.heap.size w W → VAt w.heap.size ao (ps.map (Value.int .i64)) W) := Lib.hid fun W hb => hs.under hb
  have HS2 : Hid (∀ W, Below w.heap.size w W → VAt w.heap.size bo (ds.map (Value.int .i64)) W) := Lib.hid fun W hb => hs2.under hb
  clear hT hs hs2 wc wm wx vc2 vm2 vx hn hd
  by_cases h150 : n ≤ 150
  · by_cases hd150 : d ≤ 150
    · have h1 : ¬ (150 : Int) < (n : Int) := by omega
      have h2 : ¬ (150 : Int) < (d : Int) := by omega
      go_enter Tryd.func4, Tryd.ntmps4
      go_upto_region 3 with (go_at_call 8; (with_reducible refine CA.out.mono ?_); rintro e w1 ⟨rfl, hb1⟩; have HB1 := Lib.hid hb1; clear hb1)
      have CN := Lib.hid (new_any w1)
      go_wp2_with fail
      refine CN.out.mono ?_
      rintro e w2 ⟨H, rfl, hs2, hb2⟩
      obtain ⟨B, hB⟩ : ∃ B, B = w1.heap.size := ⟨_, rfl⟩
      rw [← hB] at hs2 ⊢
      obtain ⟨m, hm2⟩ : ∃ m, m = B + 2 := ⟨_, rfl⟩
      rw [← hm2] at hs2 ⊢
      have P2 : Hid (PuAt w B m H [] ps 0 w2) := Lib.hid ⟨⟨_, hs2⟩, fun x y => ⟨fun ⟨p, hp, _⟩ => (by cases hp), fun ⟨i, h, _⟩ => (by have := h.1; omega)⟩, by simp, below_mono HB1.out hb2 (Nat.le_refl _), by rw [hB]; exact HB1.out.size⟩
      have HGB : Hid (0 < B) := Lib.hid (by rw [hB]; exact Nat.lt_of_lt_of_le HG.out HB1.out.size)
      have HBB : Hid (w.heap.size ≤ B) := Lib.hid (by rw [hB]; exact HB1.out.size)
      clear hs2 hb2 hm2 CN hB HB1
      have R0 := Lib.hid (World.ownsRow_nil w2 B 2 1)
      go_wp2_with fail
      go_loopw [6, 7] (fun v i wr => ∃ (j : Nat) (ns : List Nd), j ≤ n ∧ i = .int .i64 j ∧ Hid (PuAt w B m H ns ps j wr) ∧ Hid (wr.ownsRow B 2 1 v j ((ps.take j).map iv))) (fun _ i _ => n - (intOf i).toNat)
      case atStart => exact ⟨0, [], by omega, rfl, P2, Lib.hid (by simpa using R0.out)⟩
      case round =>
        clear P2 R0
        obtain ⟨j, ns, hj, rfl, HP, HR⟩ := hrel
        obtain ⟨va, vc, rfl⟩ := row_form HR.out
        have hj0 : (0 : Int) ≤ (j : Int) := by omega
        by_cases hlt : j < n
        · have hji : (j : Int) < (n : Int) := by omega
          have hlx : 0 < (ps.map (Value.int .i64)).length := by simp; rw [← HN.out]; omega
          obtain ⟨a, rfl⟩ := (HS.out wr HP.out.bel).there hlx
          obtain ⟨x, hx⟩ : ∃ x, ps[j]? = some x := ⟨ps[j]'(by rw [← HN.out]; exact hlt), List.getElem?_eq_getElem _⟩
          have CELL : Hid (∀ W, Below w.heap.size w W → W.cell? (a.add j) = some (.int .i64 x)) := Lib.hid fun W hW => ((HS.out W hW).cells a rfl hlx).2 j _ (by simp [hx])
          have z0 := CELL.out wr HP.out.bel
          have z1 := CELL.out (wr.alloc (.cells #[.int .u8 (j : Int)] 5)) (HP.out.bel.alloc HP.out.bel.size _)
          have hcv : (convert 46 9 (.slice (some ⟨wr.heap.size, 0, none⟩) 1 1)).run Tryd.prog (wr.alloc (.cells #[.int .u8 (j : Int)] 5)).drew = .ok (.string (strOfNums [(j : Int)])) (wr.alloc (.cells #[.int .u8 (j : Int)] 5)).drew := one_byte wr.drew (j : Int)
          have hw8 : IntKind.u8.wrap (j : Int) = (j : Int) := by rw [IntKind.wrap_u8]; omega
          have hbW : Below wr.heap.size wr (wr.alloc (.cells #[.int .u8 (j : Int)] 5)).drew := ((Below.refl _ _).alloc (Nat.le_refl _) _).drew
          have CP := Lib.hid (HP.out.put hx (by omega) HGB.out HR.out _ hbW (HT.out _ (below_mono HP.out.bel hbW (Nat.le_refl _))))
          have HX := Lib.hid hx
          clear hx hlx hbW
          go_upto_region 8 with fail
          go_cut [] (fun wx => Hid ((∃ ns', PuAt w B m H ns' ps (j + 1) wx) ∧ wx.ownsRow B 2 1 (.slice va j vc) j ((ps.take j).map iv)))
          case first =>
            go_region_with (go_at_call 19; (with_reducible refine CP.out.mono ?_); rintro e w4 ⟨⟨ea, eb, rfl⟩, hp4, hr4⟩; have HP4 := Lib.hid (And.intro hp4 hr4); clear hp4 hr4)
            all_goals
              go_wp2_with fail
              go_meet
              exact HP4
          case rest =>
            clear CP z0 z1 hcv hw8 HP HR
            obtain ⟨⟨ns', hp4⟩, hr4⟩ := hcut.out
            have HP4 := Lib.hid hp4
            have z0 := CELL.out wc hp4.bel
            have hnew : (wc.alloc (.cells #[.int .i64 x] 2)).heap[wc.heap.size]? = some (.cells #[.int .i64 x] 2 (0, 0)) := heap_alloc_new wc _
            have PN : Hid ((wc.alloc (.cells #[.int .i64 x] 2)).cell? ⟨wc.heap.size, 0, none⟩ = some (.int .i64 x)) := Lib.hid (cell_blk hnew 0)
            have RA := Lib.hid (hr4.alloc (.cells #[.int .i64 x] 2))
            have hbA : Below wc.heap.size wc (wc.alloc (.cells #[.int .i64 x] 2)) := (Below.refl _ _).alloc (Nat.le_refl _) _
            have HBA := Lib.hid hbA
            have hBs : Hid (B ≤ (wc.alloc (.cells #[.int .i64 x] 2)).heap.size) := Lib.hid (by obtain ⟨mx, hs⟩ := hp4.sk; exact Nat.le_trans hs.base hbA.size)
            have hn5 : j ≤ 1000000 := by omega
            clear hnew hbA hp4 hr4 hcut
            go_wp2_with (at_builtin; refine wpList_appK rfl _ _ rfl B j _ _ (.int .i64 x) rfl rfl RA.out wc.heap.size rfl PN.out hn5 hBs.out ?_; intro v2 w9 hrow hgr; have hR9 := Lib.hid hrow; have hP9 : Hid (PuAt w B m H ns' ps (j + 1) w9) := Lib.hid (by obtain ⟨mx, hs⟩ := HP4.out.sk; exact ⟨⟨mx, (hs.under HBA.out).grown RA.out kinds3 hgr⟩, HP4.out.pt, HP4.out.cnt, (below_mono HP4.out.bel HBA.out (Nat.le_refl _)).grown hgr (Nat.le_trans HP4.out.bel.size HBA.out.size) (fun g hg => Nat.le_trans HBB.out (RA.out.lt g hg).1), HP4.out.base⟩); obtain ⟨va2, vc2, hv2⟩ := row_form hrow; subst hv2; clear hrow hgr)
            go_roundw
            case rel => exact ⟨j + 1, ns', by omega, by go_num, hP9, Lib.hid (by rw [List.take_add_one, HX.out]; simpa [iv] using hR9.out)⟩
            case measure => simp [intOf]; omega
        · obtain rfl : j = n := by omega
          have hR : wr.ownsRow B 2 1 (.slice va j vc) j (ps.map iv) := by have := HR.out; rwa [HN.out, List.take_length, ← HN.out] at this
          have HR2 := Lib.hid hR
          have D0 : Hid (DropsR ps ds 0 ns) := Lib.hid fun x y => by
            rw [HP.out.pt x y, HN.out]
            exact ⟨fun h => ⟨fun t ht => by omega, h⟩, fun h => h.2⟩
          clear hR HR
          go_wp2_with fail
          go_loopw [8] (fun i wr => ∃ (t : Nat) (ns : List Nd), t ≤ d ∧ i = .int .i64 t ∧ Hid (∃ mx, SkAt B m H mx ns wr) ∧ Hid (DropsR ps ds t ns) ∧ Hid (ns.length ≤ j) ∧ Hid (wr.ownsRow B 2 1 (.slice va j vc) j (ps.map iv)) ∧ Hid (Below w.heap.size w wr)) (fun i _ => d - (intOf i).toNat)
          case atStart => exact ⟨0, ns, by omega, rfl, Lib.hid HP.out.sk, D0, Lib.hid HP.out.cnt, HR2, Lib.hid HP.out.bel⟩
          case round =>
            clear HP D0 HR2
            obtain ⟨t, ns, ht, rfl, HSk, HDR, HL, HR, HB⟩ := hrel
            have ht0 : (0 : Int) ≤ (t : Int) := by omega
            by_cases hlt2 : t < d
            · have hti : (t : Int) < (d : Int) := by omega
              have hlx : 0 < (ds.map (Value.int .i64)).length := by simp; rw [← HD.out]; omega
              obtain ⟨a, rfl⟩ := (HS2.out wr HB.out).there hlx
              obtain ⟨x, hx⟩ : ∃ x, ds[t]? = some x := ⟨ds[t]'(by rw [← HD.out]; exact hlt2), List.getElem?_eq_getElem _⟩
              have z0 := ((HS2.out wr HB.out).cells a rfl hlx).2 t (.int .i64 x) (by simp [hx])
              obtain ⟨mx, hsk⟩ := HSk.out
              have CD := Lib.hid (del_any hsk x (by have := HL.out; omega))
              have HK := Lib.hid hsk
              have HX := Lib.hid hx
              clear hx hlx hsk
              go_wp2_with fail
              refine CD.out.mono ?_
              rintro e w4 ⟨ns', ea, eb, rfl, hp, hs4, ho4, _⟩
              have HB4 := Lib.hid (HK.out.lift ho4 HBB.out HB.out.size HB.out)
              have HR4 := Lib.hid (HK.out.row ho4 HR.out kinds3)
              have HL4 : Hid (ns'.length ≤ j) := Lib.hid (Nat.le_trans hp.len HL.out)
              have HD4 := Lib.hid (HDR.out.step HX.out hp HK.out.so)
              have HS4 : Hid (∃ mx, SkAt B m H mx ns' w4) := Lib.hid ⟨mx, hs4⟩
              clear hp hs4 ho4 CD z0
              go_wp2_with fail
              go_roundw
              case rel => exact ⟨t + 1, ns', by omega, by go_num, HS4, HD4, HL4, HR4, HB4⟩
              case measure => simp [intOf]; omega
            · obtain rfl : t = d := by omega
              obtain ⟨mx, hsk⟩ := HSk.out
              have CK := Lib.hid (keys_any hsk (by have := HL.out; omega))
              have HK := Lib.hid hsk
              have hcount := count_all (by rw [← HD.out]; exact HDR.out) hsk.so
              rw [← HN.out] at hcount
              obtain ⟨gl, hgl⟩ : ∃ gl, gl = ns.length := ⟨_, rfl⟩
              rw [← hgl] at CK hcount
              have HCT := Lib.hid hcount
              have HGL := Lib.hid hgl
              have hgl5 : gl ≤ 1000 := by have := HL.out; omega
              clear hsk hcount hgl
              go_upto_region 15 with (go_at_call 21; (with_reducible refine CK.out.mono ?_); rintro e w5 ⟨ka, kc, rfl, hk5, hb5⟩; have HST : Hid (StAt w B m H ns ka gl kc va vc ps w5) := Lib.hid ⟨⟨mx, HK.out.under hb5⟩, row_mono hk5 HK.out.base, by rw [← HN.out]; exact row_stay HR.out fun g hg => hb5.block g (HR.out.lt g hg).2, below_mono HB.out hb5 (Nat.le_refl _)⟩; clear hk5 hb5)
              clear CK HK HR HB HSk
              go_wp2_with fail
              go_loopw [10, 11] (fun cv iv' wr => ∃ (i c : Nat), i ≤ j ∧ iv' = .int .i64 i ∧ cv = .int .i64 c ∧ Hid (c = (List.range i).countP (counts ps ds)) ∧ Hid (StAt w B m H ns ka gl kc va vc ps wr)) (fun _ i _ => j - (intOf i).toNat)
              case atStart => exact ⟨0, 0, by omega, rfl, rfl, Lib.hid (by simp), HST⟩
              case round =>
                clear HST
                obtain ⟨i, c, hi, rfl, rfl, HC, HST⟩ := hrel
                have hi0 : (0 : Int) ≤ (i : Int) := by omega
                by_cases hlt3 : i < j
                · have hii : (i : Int) < (j : Int) := by omega
                  obtain ⟨x, hx⟩ : ∃ x, ps[i]? = some x := ⟨ps[i]'(by rw [← HN.out]; exact hlt3), List.getElem?_eq_getElem _⟩
                  obtain ⟨vb, hvb, hjunk⟩ := row_cell HST.out.pr (j := i) (by rw [← HN.out]; exact hlt3)
                  clear hjunk
                  subst hvb
                  have PC : Hid (∀ W, StAt w B m H ns ka gl kc (some ⟨vb, 0, none⟩) vc ps W → ∀ u y, ps[u]? = some y → W.cell? ⟨vb, u, none⟩ = some (.int .i64 y)) := Lib.hid fun W hW u y hy => by
                    obtain ⟨b2, hb2, hc2⟩ := row_cell hW.pr (j := u) (List.getElem?_eq_some_iff.1 hy).1
                    injection hb2 with e; injection e with e; subst e
                    rw [hc2, List.getElem?_map, hy]; rfl
                  have z0 := PC.out wr HST.out i x hx
                  obtain ⟨mx, hsk⟩ := HST.out.sk
                  have CG := Lib.hid (get_any hsk x)
                  obtain ⟨s0, hs0⟩ := last_ex (j := j) (i := i) hlt3 hx
                  have HS0 := Lib.hid hs0
                  have HX := Lib.hid hx
                  clear hsk hs0 hx
                  go_upto_region 20 with (go_at_call 22; (with_reducible refine CG.out.mono ?_); rintro e w6 ⟨⟨v, ok, rfl, hget⟩, hb6⟩; have HGET := Lib.hid hget; have HST6 := Lib.hid (HST.out.under hb6); clear hget hb6)
                  clear CG HST z0
                  have HOK : Hid ((ok = true ∧ x ∉ ds ∧ v = strOfNums [(s0 : Int)]) ∨ (ok = false ∧ x ∈ ds)) := Lib.hid (by
                    have hdr := HDR.out
                    rcases HGET.out with ⟨h1, h2⟩ | ⟨h1, h2⟩
                    · obtain ⟨h3, i', h4, h5⟩ := (hdr x v).1 h2
                      have := HS0.out
                      rw [HN.out] at this
                      have e := last_one h4 this
                      subst e
                      exact .inl ⟨h1, not_in.1 (by rw [← HD.out]; exact h3), h5⟩
                    · refine .inr ⟨h1, ?_⟩
                      rcases Classical.em (x ∈ ds) with h | h
                      · exact h
                      · refine absurd ((hdr x (one s0)).2 ⟨by rw [HD.out]; exact not_in.2 h, s0, by rw [← HN.out]; exact HS0.out, rfl⟩) (h2 _))
                  clear HGET
                  go_wp2_with fail
                  go_loopw [14, 16] (fun g k wr => ∃ (u : Nat) (b : Bool), u ≤ t ∧ k = .int .i64 u ∧ g = .bool b ∧ Hid (b = true ↔ ∃ y, y < u ∧ ds[y]? = some x) ∧ Hid (StAt w B m H ns ka gl kc (some ⟨vb, 0, none⟩) vc ps wr)) (fun _ k _ => t - (intOf k).toNat)
                  case atStart => exact ⟨0, false, by omega, rfl, rfl, Lib.hid (by simp), HST6⟩
                  case round =>
                    clear HST6
                    obtain ⟨u, b, hu, rfl, rfl, HBB2, HST⟩ := hrel
                    have hu0 : (0 : Int) ≤ (u : Int) := by omega
                    by_cases hlt4 : u < t
                    · have hui : (u : Int) < (t : Int) := by omega
                      have hlx : 0 < (ds.map (Value.int .i64)).length := by simp; rw [← HD.out]; omega
                      obtain ⟨a2, hbo⟩ := (HS2.out wr HST.out.bel).there hlx
                      obtain ⟨y, hy⟩ : ∃ y, ds[u]? = some y := ⟨ds[u]'(by rw [← HD.out]; exact hlt4), List.getElem?_eq_getElem _⟩
                      have z0 := ((HS2.out wr HST.out.bel).cells a2 hbo hlx).2 u (.int .i64 y) (by simp [hy])
                      have z1 := PC.out wr HST.out i x HX.out
                      subst hbo
                      have HY := Lib.hid hy
                      clear hy hlx
                      cases b with
                      | true =>
                        go_wp2_with fail
                        go_quiet (fail)
                        go_wp2_with fail
                        go_roundw
                        case rel => exact ⟨u + 1, true, by omega, by go_num, rfl, Lib.hid ⟨fun _ => by obtain ⟨z, h1, h2⟩ := HBB2.out.1 (by first | rfl | trivial); exact ⟨z, by omega, h2⟩, fun _ => rfl⟩, Lib.hid (HST.out.under (below_drewN (Below.refl _ _) _))⟩
                        case measure => simp [intOf]; omega
                      | false =>
                        obtain ⟨q, hq⟩ : ∃ q, (y == x) = q := ⟨_, rfl⟩
                        have HQ := Lib.hid hq
                        go_wp2_with fail
                        go_quiet (fail)
                        go_wp2_with fail
                        go_roundw
                        case rel => exact ⟨u + 1, q, by omega, by go_num, rfl, Lib.hid (by
                          have h1 := HQ.out
                          constructor
                          · intro h
                            rw [h] at h1
                            exact ⟨u, by omega, by rw [HY.out]; congr 1; simpa using h1⟩
                          · rintro ⟨z, h2, h3⟩
                            by_cases e : z = u
                            · subst e
                              rw [HY.out] at h3
                              injection h3 with h3
                              rw [← h1, h3]; simp
                            · have := HBB2.out.2 ⟨z, by omega, h3⟩
                              cases this), Lib.hid (HST.out.under (below_drewN (Below.refl _ _) _))⟩
                        case measure => simp [intOf]; omega
                    · obtain rfl : u = t := by omega
                      have HGONE : Hid (b = true ↔ x ∈ ds) := Lib.hid (by
                        rw [HBB2.out, HD.out]
                        constructor
                        · rintro ⟨y, _, h⟩; exact List.mem_of_getElem? h
                        · intro h
                          obtain ⟨y, hy, e⟩ := List.mem_iff_getElem.1 h
                          exact ⟨y, hy, by rw [List.getElem?_eq_getElem hy, e]⟩)
                      clear HBB2
                      go_wp2_with fail
                      go_loopw [15, 17] (fun l k wr => ∃ (y s : Nat), i ≤ y ∧ y ≤ j ∧ k = .int .i64 y ∧ l = .int .i64 s ∧ Hid (ps[s]? = some x ∧ i ≤ s ∧ s < j ∧ ∀ z, s < z → z < y → ps[z]? ≠ some x) ∧ Hid (StAt w B m H ns ka gl kc (some ⟨vb, 0, none⟩) vc ps wr)) (fun _ k _ => j - (intOf k).toNat)
                      case atStart => exact ⟨i, i, by omega, by omega, rfl, rfl, Lib.hid ⟨HX.out, by omega, hlt3, fun z h1 h2 => by omega⟩, HST⟩
                      case round =>
                        clear HST
                        obtain ⟨y, s, hy1, hy2, rfl, rfl, HL5, HST⟩ := hrel
                        have hy0 : (0 : Int) ≤ (y : Int) := by omega
                        by_cases hlt5 : y < j
                        · have hyi : (y : Int) < (j : Int) := by omega
                          obtain ⟨r, hr⟩ : ∃ r, ps[y]? = some r := ⟨ps[y]'(by rw [← HN.out]; exact hlt5), List.getElem?_eq_getElem _⟩
                          have z0 := PC.out wr HST.out y r hr
                          have z1 := PC.out wr HST.out i x HX.out
                          have HR5 := Lib.hid hr
                          clear hr
                          by_cases hq : r = x
                          · have hq2 : (r == x) = true := by simpa using hq
                            have HQ := Lib.hid hq
                            clear hq
                            go_wp2_with fail
                            go_quiet (fail)
                            go_wp2_with fail
                            go_roundw
                            case rel => exact ⟨y + 1, y, by omega, by omega, by go_num, rfl, Lib.hid ⟨by rw [HR5.out, HQ.out], hy1, hlt5, fun z h1 h2 => by omega⟩, Lib.hid (HST.out.under (below_drewN (Below.refl _ _) _))⟩
                            case measure => simp [intOf]; omega
                          · have hq2 : (r == x) = false := by simpa using hq
                            have HQ := Lib.hid hq
                            clear hq
                            go_wp2_with fail
                            go_quiet (fail)
                            go_wp2_with fail
                            go_roundw
                            case rel => exact ⟨y + 1, s, by omega, by omega, by go_num, rfl, Lib.hid ⟨HL5.out.1, HL5.out.2.1, HL5.out.2.2.1, fun z h1 h2 => by
                              by_cases e : z = y
                              · subst e; rw [HR5.out]; intro e2; injection e2 with e2; exact HQ.out e2
                              · exact HL5.out.2.2.2 z h1 (by omega)⟩, Lib.hid (HST.out.under (below_drewN (Below.refl _ _) _))⟩
                            case measure => simp [intOf]; omega
                        · obtain rfl : y = j := by omega
                          have HSS : Hid (s = s0) := Lib.hid (last_one (ps := ps) (j := y) (x := x) ⟨HL5.out.2.2.1, HL5.out.1, HL5.out.2.2.2⟩ HS0.out)
                          have HCI : Hid (counts ps ds i = (ok && decide (s = i))) := Lib.hid (by
                            rw [Bool.eq_iff_iff, counts_iff, Bool.and_eq_true, decide_eq_true_iff, ← HN.out, HSS.out]
                            constructor
                            · rintro ⟨z, h1, h2⟩
                              have e : z = x := by have := h1.2.1.symm.trans HX.out; injection this
                              subst e
                              refine ⟨?_, last_one HS0.out h1⟩
                              rcases HOK.out with ⟨h, _⟩ | ⟨_, h⟩
                              · exact h
                              · exact absurd h h2
                            · rintro ⟨h1, h2⟩
                              refine ⟨x, by rw [← h2]; exact HS0.out, ?_⟩
                              rcases HOK.out with ⟨_, h, _⟩ | ⟨h, _⟩
                              · exact h
                              · rw [h1] at h; cases h)
                          have HC1 : Hid ((List.range (i + 1)).countP (counts ps ds) = c + (if (ok && decide (s = i)) = true then 1 else 0)) := Lib.hid (by
                            rw [List.range_succ, List.countP_append, ← HC.out, ← HCI.out]
                            simp [List.countP_cons])
                          rcases HOK.out with ⟨rfl, hnd, hv⟩ | ⟨rfl, hin⟩
                          · have hb : b = false := by
                              cases b with
                              | false => rfl
                              | true => exact absurd (HGONE.out.1 rfl) hnd
                            subst hb
                            rw [← HSS.out] at hv
                            subst hv
                            have hs9 : s < y := HL5.out.2.2.1
                            have hw8 : IntKind.u8.wrap (s : Int) = (s : Int) := by rw [IntKind.wrap_u8]; omega
                            have hcv := one_byte wr (s : Int)
                            have hbA : Below wr.heap.size wr (wr.alloc (.cells #[.int .u8 (s : Int)] 5)) := (Below.refl _ _).alloc (Nat.le_refl _) _
                            have HST9 := Lib.hid (HST.out.under hbA)
                            clear hnd hbA HL5 HSS HOK HCI HST
                            by_cases hsi : s = i
                            · have e1 : (s : Int) = (i : Int) := by omega
                              have hsi2 : ((s : Int) == (i : Int)) = true := by simpa using e1
                              have hc1 : c + 1 ≤ 1000 := by have h1 := HC.out; have h2 := List.countP_le_length (p := counts ps ds) (l := List.range i); simp at h2; omega
                              have hw9 : IntKind.i64.wrap ((c : Int) + 1) = (c : Int) + 1 := by rw [IntKind.wrap_i64]; omega
                              have HC2 : Hid (c + 1 = (List.range (i + 1)).countP (counts ps ds)) := Lib.hid (by rw [HC1.out]; simp [hsi])
                              clear HC1 e1
                              subst hsi
                              go_wp2_with fail
                              go_roundw
                              case rel => exact ⟨s + 1, c + 1, by omega, by go_num, by go_num, HC2, HST9⟩
                              case measure => simp [intOf]; omega
                            · have hsi2 : ((s : Int) == (i : Int)) = false := by simp; omega
                              have HC2 : Hid (c = (List.range (i + 1)).countP (counts ps ds)) := Lib.hid (by rw [HC1.out]; simp [hsi])
                              clear HC1
                              go_wp2_with fail
                              go_roundw
                              case rel => exact ⟨i + 1, c, by omega, by go_num, rfl, HC2, HST9⟩
                              case measure => simp [intOf]; omega
                          · have hb : b = true := HGONE.out.2 hin
                            subst hb
                            have HC2 : Hid (c = (List.range (i + 1)).countP (counts ps ds)) := Lib.hid (by rw [HC1.out]; simp)
                            clear hin HL5 HSS HOK HCI HC1
                            go_wp2_with fail
                            go_roundw
                            case rel => exact ⟨i + 1, c, by omega, by go_num, rfl, HC2, HST⟩
                            case measure => simp [intOf]; omega
                · obtain rfl : i = j := by omega
                  obtain rfl : c = gl := by rw [HC.out, HCT.out]
                  obtain ⟨mx, hsk⟩ := HST.out.sk
                  have HSRT := Lib.hid hsk.srt
                  clear hsk
                  go_wp2_with fail
                  go_loopw [18] (fun k wr => ∃ y : Nat, 1 ≤ y ∧ (y ≤ c ∨ y = 1) ∧ k = .int .i64 y ∧ Hid (StAt w B m H ns ka c kc va vc ps wr)) (fun k _ => c - (intOf k).toNat)
                  case atStart => exact ⟨1, by omega, by omega, by rfl, HST⟩
                  case round =>
                    clear HST
                    obtain ⟨y, hy1, hy2, rfl, HST⟩ := hrel
                    have hy0 : (0 : Int) ≤ (y : Int) := by omega
                    by_cases hlt6 : y < c
                    · have hyi : (y : Int) < (c : Int) := by omega
                      obtain ⟨q, rfl⟩ : ∃ q, y = q + 1 := ⟨y - 1, by omega⟩
                      have hl := HGL.out
                      obtain ⟨p1, hp1⟩ : ∃ p, ns[q]? = some p := ⟨ns[q]'(by omega), List.getElem?_eq_getElem _⟩
                      obtain ⟨p2, hp2⟩ : ∃ p, ns[q + 1]? = some p := ⟨ns[q + 1]'(by omega), List.getElem?_eq_getElem _⟩
                      obtain ⟨kb, hkb, x1⟩ := row_cell HST.out.kr (j := q) (by omega)
                      obtain ⟨kb2, hkb2, x2⟩ := row_cell HST.out.kr (j := q + 1) (by omega)
                      rw [hkb] at hkb2
                      injection hkb2 with e; injection e with e
                      subst e hkb
                      rw [List.getElem?_map, hp1, Option.map_some, kv] at x1
                      rw [List.getElem?_map, hp2, Option.map_some, kv] at x2
                      have hlt7 : p1.k < p2.k := by
                        have h1 := HSRT.out
                        unfold Srt at h1
                        rw [List.pairwise_iff_getElem] at h1
                        have h2 := h1 q (q + 1) (by simp; omega) (by simp; omega) (by omega)
                        obtain ⟨l1, e1⟩ := List.getElem?_eq_some_iff.1 hp1
                        obtain ⟨l2, e2⟩ := List.getElem?_eq_some_iff.1 hp2
                        simp only [List.getElem_map, e1, e2, lt, decide_eq_true_eq] at h2
                        exact h2
                      obtain ⟨k1, hk1⟩ : ∃ k, k = p1.k := ⟨_, rfl⟩
                      obtain ⟨k2, hk2⟩ : ∃ k, k = p2.k := ⟨_, rfl⟩
                      rw [← hk1] at x1 hlt7
                      rw [← hk2] at x2 hlt7
                      have hge : ¬ k2 ≤ k1 := by omega
                      have hyq : (((q + 1 : Nat) : Int) - 1) = (q : Int) := by omega
                      have hyq2 : IntKind.i64.wrap (((q + 1 : Nat) : Int) - 1) = (q : Int) := by rw [IntKind.wrap_i64]; omega
                      have hq0 : (0 : Int) ≤ (q : Int) := by omega
                      have hqc : (q : Int) < (c : Int) := by omega
                      obtain ⟨y2, hy2'⟩ : ∃ y2 : Nat, y2 = q + 1 := ⟨_, rfl⟩
                      rw [← hy2'] at hyq hyq2 x2 hyi hy0 hy1 hy2 hlt6 ⊢
                      have HY2 := Lib.hid hy2'
                      clear hp1 hp2 hl hk1 hk2 hy2'
                      go_wp2_with fail
                      go_quiet (fail)
                      go_wp2_with fail
                      go_roundw
                      case rel => exact ⟨y2 + 1, by omega, by omega, by go_num, Lib.hid (HST.out.under (below_drewN (Below.refl _ _) _))⟩
                      case measure => simp [intOf]; omega
                    · have hyi : ¬ (y : Int) < (c : Int) := by omega
                      obtain ⟨mx, hsk⟩ := HST.out.sk
                      have CL := Lib.hid (len_any hsk)
                      rw [← HGL.out] at CL
                      clear hsk
                      go_wp2_with (go_at_call 23; (with_reducible refine CL.out.mono ?_); rintro e w9 ⟨rfl, rfl⟩)
                      go_ret
                      exact ⟨rfl, HST.out.bel⟩
    · have h1 : (150 : Int) < (d : Int) := by omega
      have h2 : ¬ (150 : Int) < (n : Int) := by omega
      go_enter Tryd.func4, Tryd.ntmps4
      go_wp2_with (go_at_call 8; (with_reducible refine CA.out.mono ?_); rintro e w1 ⟨rfl, hb1⟩; have HB1 := Lib.hid hb1; clear hb1)
      go_ret
      exact ⟨rfl, HB1.out⟩
  · have h1 : (150 : Int) < (n : Int) := by omega
    go_enter Tryd.func4, Tryd.ntmps4
    go_wp2_with (go_at_call 8; (with_reducible refine CA.out.mono ?_); rintro e w1 ⟨rfl, hb1⟩; have HB1 := Lib.hid hb1; clear hb1)
    go_ret
    exact ⟨rfl, HB1.out⟩
end sn
end Go.Proofs.YtnganclkjoiggaaDoor
