/- The walk of the law ValueSays. -/
import Derived.Test.YtnmidlbhkjcimaaDoorLawVUnlike
import Derived.Test.YtnmidlbhkjcimaaDoorZRWrit
import Derived.Test.YtnmidlbhkjcimaaDoorVListsM
namespace Go.Proofs.YtnmidlbhkjcimaaDoor
open Go.RowKit

theorem five_row {w : World} {b : Nat} {z0 z1 z2 z3 z4 v0 v1 v2 v3 v4 : Value} {t : TypeId} (h : w.heap[b]? = some (.cells #[z0, z1, z2, z3, z4] t (0, 0))) :
    (((((w.setCell ⟨b, 0, none⟩ v0).setCell ⟨b, 1, none⟩ v1).setCell ⟨b, 2, none⟩ v2).setCell ⟨b, 3, none⟩ v3).setCell ⟨b, 4, none⟩ v4).heap[b]? = some (.cells #[v0, v1, v2, v3, v4] t (0, 0)) :=
  heap_setCell_same _ b 4 _ _ _ (heap_setCell_same _ b 3 _ _ _ (heap_setCell_same _ b 2 _ _ _ (heap_setCell_same _ b 1 _ _ _ (heap_setCell_same _ b 0 _ _ _ h))))
theorem live_rtokens {w : World} {x : Value} {u : VT} (hz : sizeV u ≤ 9000) (hr : RngV u) (hx : LiveV w x u) : Calls Tryd.prog 8 #[x] w fun e w' => ∃ A c, e = .returned (.tuple #[.slice A (toksV u).length c, .bool (plainB u)]) ∧ TL w' A (toksV u).length (toksV u) ∧ Below w.heap.size w w' := by
  obtain ⟨c0, c1, c2, c3, c4, rfl, hu⟩ := hx
  refine Calls.mono (rtokens_any u hz hr _ _ _ _ _ w w.heap.size (Nat.le_refl _) hu) ?_
  rintro e w' ⟨V, rfl, hT, hb⟩
  obtain ⟨A, c, rfl, hL⟩ := hT.live
  exact ⟨A, c, rfl, hL, hb⟩
theorem live_good {w : World} {x : Value} {u : VT} (hz : sizeV u ≤ 9000) (hx : LiveV w x u) (hw : Laid5 w) : Calls Tryd.prog 10 #[x] w fun e w' => e = .returned (.bool (fitV goodB u)) ∧ Below w.heap.size w w' := by
  obtain ⟨c0, c1, c2, c3, c4, rfl, hu⟩ := hx
  exact vgood_any u hz _ _ _ _ _ w w.heap.size (Nat.le_refl _) hu hw
theorem live_rgood {w : World} {x : Value} {u : VT} (hz : sizeV u ≤ 9000) (hx : LiveV w x u) : Calls Tryd.prog 11 #[x] w fun e w' => e = .returned (.bool (fitV goodB u)) ∧ Below w.heap.size w w' := by
  obtain ⟨c0, c1, c2, c3, c4, rfl, hu⟩ := hx
  exact rgoodv_any u hz _ _ _ _ _ w w.heap.size (Nat.le_refl _) hu
theorem live_rplain {w : World} {x : Value} {u : VT} (hz : sizeV u ≤ 9000) (hx : LiveV w x u) : Calls Tryd.prog 13 #[x] w fun e w' => e = .returned (.bool (plainB u)) ∧ Below w.heap.size w w' := by
  obtain ⟨c0, c1, c2, c3, c4, rfl, hu⟩ := hx
  exact rplain_any u hz _ _ _ _ _ w w.heap.size (Nat.le_refl _) hu
theorem live_depth {w : World} {x : Value} {u : VT} (hz : sizeV u ≤ 9000) (hx : LiveV w x u) : Calls Tryd.prog 14 #[x] w fun e w' => e = .returned (.int .i64 (depV u)) ∧ Below w.heap.size w w' := by
  obtain ⟨c0, c1, c2, c3, c4, rfl, hu⟩ := hx
  exact depth_any u hz _ _ _ _ _ w w.heap.size (Nat.le_refl _) hu
theorem live_rdepth {w : World} {x : Value} {u : VT} (hz : sizeV u ≤ 9000) (hx : LiveV w x u) : Calls Tryd.prog 15 #[x] w fun e w' => e = .returned (.int .i64 (depV u)) ∧ Below w.heap.size w w' := by
  obtain ⟨c0, c1, c2, c3, c4, rfl, hu⟩ := hx
  exact rdep_any u hz _ _ _ _ _ w w.heap.size (Nat.le_refl _) hu
theorem live_vars {w : World} {x : Value} {u : VT} (hz : sizeV u ≤ 9000) (hx : LiveV w x u) : Calls Tryd.prog 17 #[x] w fun e w' => ∃ A c, e = .returned (.slice A (varsV u []).length c) ∧ Blk.StrsAt w' w'.heap.size A (varsV u []).length (varsV u []) ∧ Below w.heap.size w w' := by
  obtain ⟨c0, c1, c2, c3, c4, rfl, hu⟩ := hx
  refine Calls.mono (vars_any u hz _ _ _ _ _ w w.heap.size (Nat.le_refl _) hu) ?_
  rintro e w' ⟨V, rfl, hT, hb⟩
  obtain ⟨A, c, rfl, hL⟩ := SR.strs hT
  exact ⟨A, c, rfl, hL, hb⟩
theorem live_rvars {w : World} {x : Value} {u : VT} (hz : sizeV u ≤ 9000) (hx : LiveV w x u) : Calls Tryd.prog 18 #[x] w fun e w' => ∃ A c, e = .returned (.slice A (varsV u []).length c) ∧ Blk.StrsAt w' w'.heap.size A (varsV u []).length (varsV u []) ∧ Below w.heap.size w w' := by
  obtain ⟨c0, c1, c2, c3, c4, rfl, hu⟩ := hx
  refine Calls.mono (rVars_any u hz _ _ _ _ _ w w.heap.size (Nat.le_refl _) hu) ?_
  rintro e w' ⟨V, rfl, hT, hb⟩
  obtain ⟨A, c, rfl, hL⟩ := hT.strs
  exact ⟨A, c, rfl, hL, hb⟩
/-- Two boxes that stand, with what they hold. -/
def JW (w w3 : World) (c0 c1 c2 c3 c4 d0 d1 d2 d3 d4 : Value) (v : VT) (W : World) : Prop := KBx w (.cells #[c0, c1, c2, c3, c4] 25) W ∧ KBx w3 (.cells #[d0, d1, d2, d3, d4] 25) W ∧ LiveV W (.agg #[c0, c1, c2, c3, c4]) v ∧ LiveV W (.agg #[d0, d1, d2, d3, d4]) v ∧ Laid5 W
theorem JW.next {w w3 W W' : World} {c0 c1 c2 c3 c4 d0 d1 d2 d3 d4 : Value} {v : VT} (h : JW w w3 c0 c1 c2 c3 c4 d0 d1 d2 d3 d4 v W) (hb : Below W.heap.size W W') : JW w w3 c0 c1 c2 c3 c4 d0 d1 d2 d3 d4 v W' := ⟨h.1.next hb, h.2.1.next hb, h.2.2.1.below hb, h.2.2.2.1.below hb, h.2.2.2.2.below hb⟩
theorem JW.written {w w3 W : World} {c0 c1 c2 c3 c4 d0 d1 d2 d3 d4 : Value} {v : VT} (h : JW w w3 c0 c1 c2 c3 c4 d0 d1 d2 d3 d4 v W) : W.cell? ⟨w.heap.size, 0, none⟩ = some c0 ∧ W.cell? ⟨w.heap.size, 1, none⟩ = some c1 ∧ W.cell? ⟨w.heap.size, 2, none⟩ = some c2 ∧ W.cell? ⟨w.heap.size, 3, none⟩ = some c3 ∧ W.cell? ⟨w.heap.size, 4, none⟩ = some c4 ∧
    W.cell? ⟨w3.heap.size, 0, none⟩ = some d0 ∧ W.cell? ⟨w3.heap.size, 1, none⟩ = some d1 ∧ W.cell? ⟨w3.heap.size, 2, none⟩ = some d2 ∧ W.cell? ⟨w3.heap.size, 3, none⟩ = some d3 ∧ W.cell? ⟨w3.heap.size, 4, none⟩ = some d4 ∧
    JW w w3 c0 c1 c2 c3 c4 d0 d1 d2 d3 d4 v W := by
  obtain ⟨f0, f1, f2, f3, f4⟩ := h.1.five
  obtain ⟨g0, g1, g2, g3, g4⟩ := h.2.1.five
  exact ⟨f0, f1, f2, f3, f4, g0, g1, g2, g3, g4, h⟩
theorem jw_of {w w3 W : World} {c0 c1 c2 c3 c4 d0 d1 d2 d3 d4 : Value} {v : VT} {p0 p1 p2 p3 p4 p5 p6 p7 p8 p9 : Prop} (h : p0 ∧ p1 ∧ p2 ∧ p3 ∧ p4 ∧ p5 ∧ p6 ∧ p7 ∧ p8 ∧ p9 ∧ JW w w3 c0 c1 c2 c3 c4 d0 d1 d2 d3 d4 v W) : JW w w3 c0 c1 c2 c3 c4 d0 d1 d2 d3 d4 v W := h.2.2.2.2.2.2.2.2.2.2
end Go.Proofs.YtnmidlbhkjcimaaDoor
namespace Go.Proofs.YtnmidlbhkjcimaaDoor.LVSays
open Go.RowKit

set_option maxRecDepth 100000 in
set_option maxHeartbeats 16000000 in
theorem law (v : VT) (c0 c1 c2 c3 c4 : Value) (w : World) (hv : VAt w w.heap.size v c0 c1 c2 c3 c4) (hz : sizeV v ≤ 1048576) (hr : RngV v) (hw : Laid5 w) :
    Calls Tryd.prog 3 #[.agg #[c0, c1, c2, c3, c4]] w fun e w' => e = .returned (.bool true) ∧ Below w.heap.size w w' := by
  have HV := Lib.hid hv
  have HWW := Lib.hid hw
  have HR := Lib.hid hr
  obtain ⟨ob, hob⟩ : ∃ ob, ob = (.cells #[c0, c1, c2, c3, c4] 25 : Obj) := ⟨_, rfl⟩
  have K0 := Lib.hid (KBx.start w (.cells #[c0, c1, c2, c3, c4] 25))
  have S1 := fun wx (K : KBx w (.cells #[c0, c1, c2, c3, c4] 25) wx) => Lib.hid (by
    have h := live_size (w := wx) (u := v) ⟨_, _, _, _, _, rfl, VAt.more K.low.size _ _ _ _ _ _ (K.at hv)⟩
    rw [W64_small hz] at h
    exact h)
  have AW := fun wx (hb : Below w.heap.size w wx) => Lib.hid (vawake_any wx (HWW.out.below hb))
  have LV := Lib.hid (fun wx (hb : Below w.heap.size w wx) => show LiveV wx (.agg #[c0, c1, c2, c3, c4]) v from ⟨_, _, _, _, _, rfl, VAt.more hb.size _ _ _ _ _ _ (VAt.below hb _ _ _ _ _ _ hv)⟩)
  obtain ⟨nv, hnv⟩ : ∃ n, sizeV v = n := ⟨_, rfl⟩
  rw [hnv] at S1
  have HNV := Lib.hid hnv
  obtain ⟨k, n, s, l, m⟩ := v
  unfold VAt at hv
  obtain ⟨rfl, rfl, rfl, _, ⟨A, c, rfl, hl, hL⟩, A', c', rfl, hm, hM⟩ := hv
  clear hw hr hnv hob hL hM
  generalize hU : VT.mk k n s l m = v at *
  have HU := Lib.hid hU
  clear hU
  by_cases h1 : (nv : Int) > 2000
  · go_enter Tryd.func3, Tryd.ntmps3
    go_wp2_with fail
    refine (S1 _ K0.out).out.mono ?_
    rintro e w2 ⟨rfl, hb2⟩
    have K2 := Lib.hid (K0.out.next hb2)
    clear hb2
    go_wp2_with fail
    refine (AW _ K2.out.low).out.mono ?_
    rintro e w3 ⟨rfl, hb3⟩
    have K3 := Lib.hid (K2.out.next hb3)
    clear hb3
    go_wp2_with fail
    go_ret
    exact ⟨rfl, K3.out.low⟩
  · have hz9 : sizeV v ≤ 9000 := by rw [HNV.out]; omega
    have HSL := Lib.hid (slim_of v (by omega))
    go_enter Tryd.func3, Tryd.ntmps3
    go_wp2_with fail
    refine (S1 _ K0.out).out.mono ?_
    rintro e w2 ⟨rfl, hb2⟩
    have K2 := Lib.hid (K0.out.next hb2)
    clear hb2 S1 K0
    obtain ⟨f0, f1, f2, f3, f4⟩ := K2.out.five
    go_wp2_with fail
    refine (live_copy HSL.out (LV.out _ K2.out.low)).mono ?_
    rintro e w3 ⟨y, rfl, ⟨d0, d1, d2, d3, d4, rfl, hy⟩, hb3⟩
    have K3 := Lib.hid (K2.out.next hb3)
    have HY := Lib.hid hy
    clear f0 f1 f2 f3 f4 hb3 K2 HSL
    have hy2 := hy
    rw [← HU.out] at hy2
    unfold VAt at hy2
    obtain ⟨rfl, rfl, rfl, _, ⟨A2, c2, rfl, hl2, _⟩, A2', c2', rfl, hm2, _⟩ := hy2
    clear hy
    have J0 := Lib.hid (show JW w w3 (.int .i64 k) (.int .i64 n) (.string s) (.slice A l.len c) (.slice A' m.len c') (.int .i64 k) (.int .i64 n) (.string s) (.slice A2 l.len c2) (.slice A2' m.len c2') v (w3.alloc (.cells #[.int .i64 k, .int .i64 n, .string s, .slice A2 l.len c2, .slice A2' m.len c2'] 25)) from
      ⟨K3.out.next (alloc_same _ _), KBx.start w3 _, LV.out _ (K3.out.next (alloc_same _ _)).low, (show LiveV w3 _ v from ⟨_, _, _, _, _, rfl, HY.out⟩).below (alloc_same _ _), HWW.out.below (K3.out.next (alloc_same _ _)).low⟩)
    have hz8 := Lib.hid hz9
    have hvl := vars_len v
    have htl := toks_len v
    obtain ⟨p, hp⟩ : ∃ p, plainB v = p := ⟨_, rfl⟩
    obtain ⟨ts, hts⟩ : ∃ ts, toksV v = ts := ⟨_, rfl⟩
    obtain ⟨vs, hvs⟩ : ∃ vs, varsV v [] = vs := ⟨_, rfl⟩
    obtain ⟨gd, hgd⟩ : ∃ gd, fitV goodB v = gd := ⟨_, rfl⟩
    obtain ⟨dp, hdp⟩ : ∃ dp, depV v = dp := ⟨_, rfl⟩
    have CT := fun wx (h : LiveV wx (.agg #[.int .i64 k, .int .i64 n, .string s, .slice A2 l.len c2, .slice A2' m.len c2']) v) (hw : Laid5 wx) => Lib.hid (live_tokens hz9 HR.out h hw)
    have CR := fun wx (h : LiveV wx (.agg #[.int .i64 k, .int .i64 n, .string s, .slice A l.len c, .slice A' m.len c']) v) => Lib.hid (live_rtokens hz9 HR.out h)
    have C1 := fun wx x (h : LiveV wx x v) (hw : Laid5 wx) => Lib.hid (live_good hz9 h hw)
    have C2 := fun wx x (h : LiveV wx x v) => Lib.hid (live_rgood hz9 h)
    have C3 := fun wx x (h : LiveV wx x v) (hw : Laid5 wx) => Lib.hid (live_plain hz9 h hw)
    have C4 := fun wx x (h : LiveV wx x v) => Lib.hid (live_rplain hz9 h)
    have C5 := fun wx x (h : LiveV wx x v) => Lib.hid (live_depth hz9 h)
    have C6 := fun wx x (h : LiveV wx x v) => Lib.hid (live_rdepth hz9 h)
    have C7 := fun wx x (h : LiveV wx x v) => Lib.hid (live_vars hz9 h)
    have C8 := fun wx x (h : LiveV wx x v) => Lib.hid (live_rvars hz9 h)
    have C9 := fun wx x y (h : LiveV wx x v) (h' : LiveV wx y v) => Lib.hid (live_rsame h h')
    rw [samB_self] at C9
    rw [hp, hts] at CT CR
    rw [hgd] at C1 C2
    rw [hp] at C3 C4
    rw [hdp] at C5 C6
    rw [hvs] at C7 C8 hvl
    rw [hts] at htl
    have hvl' : vs.length ≤ 9000 := by omega
    have htl' : ts.length ≤ 200000 := by omega
    have ST := fun wx A1 a1 A2 a2 (h1 : Blk.StrsAt wx wx.heap.size A1 vs.length vs) (h2 : Blk.StrsAt wx wx.heap.size A2 vs.length vs) => Lib.hid (by
      have h := Blk.sameTexts_any A1 A2 vs.length vs.length a1 a2 vs vs wx (by omega) h1 h2
      rw [show decide (vs = vs) = true from decide_eq_true rfl] at h
      exact h)
    clear hp hts hvs hgd hdp hvl htl K3 hz9
    go_wp2_with fail
    refine (CT _ J0.out.2.2.2.1 J0.out.2.2.2.2).out.mono ?_
    rintro e w4 ⟨At, ct, rfl, ht4, hb4⟩
    have J4 := Lib.hid (J0.out.next hb4)
    have T4 := Lib.hid ht4
    clear ht4 hb4 J0 CT
    obtain ⟨f0, f1, f2, f3, f4, _⟩ := J4.out.written
    go_wp2_with fail
    refine (CR _ J4.out.2.2.1).out.mono ?_
    rintro e w5 ⟨Au, cu, rfl, ht5, hb5⟩
    have J5 := Lib.hid (J4.out.next hb5)
    have HST := Lib.hid (toks_same At Au ts.length ts.length ct cu ts ts w5 (T4.out.below hb5) ht5 htl' htl')
    rw [tokEq_yes rfl] at HST
    clear ht5 hb5 J4 T4 CR f0 f1 f2 f3 f4
    cases p
    all_goals
      go_wp2_with fail
      refine HST.out.mono ?_
      rintro e w6 ⟨rfl, hb6⟩
      have J6 := Lib.hid (J5.out.next hb6)
      clear hb6 HST J5
      cases gd
      all_goals
        go_wp2_with fail
        go_region_held3 (fun W => W.cell? ⟨w.heap.size, 0, none⟩ = some (.int .i64 k) ∧ W.cell? ⟨w.heap.size, 1, none⟩ = some (.int .i64 n) ∧ W.cell? ⟨w.heap.size, 2, none⟩ = some (.string s) ∧ W.cell? ⟨w.heap.size, 3, none⟩ = some (.slice A l.len c) ∧ W.cell? ⟨w.heap.size, 4, none⟩ = some (.slice A' m.len c') ∧ W.cell? ⟨w3.heap.size, 0, none⟩ = some (.int .i64 k) ∧ W.cell? ⟨w3.heap.size, 1, none⟩ = some (.int .i64 n) ∧ W.cell? ⟨w3.heap.size, 2, none⟩ = some (.string s) ∧ W.cell? ⟨w3.heap.size, 3, none⟩ = some (.slice A2 l.len c2) ∧ W.cell? ⟨w3.heap.size, 4, none⟩ = some (.slice A2' m.len c2') ∧ JW w w3 (.int .i64 k) (.int .i64 n) (.string s) (.slice A l.len c) (.slice A' m.len c') (.int .i64 k) (.int .i64 n) (.string s) (.slice A2 l.len c2) (.slice A2' m.len c2') v W)
          (first
            | exact JW.written (J6.out.next (Below.drew (Below.refl _ _)))
            | exact JW.written (JW.next (jw_of (by assumption)) (by assumption))
            | go_keep)
          ((first
            | (go_at_call 10; refine (C1 _ _ (jw_of (by assumption)).2.2.2.1 (jw_of (by assumption)).2.2.2.2).out.mono ?_; rintro e w' ⟨rfl, hb⟩)
            | (go_at_call 11; refine (C2 _ _ (jw_of (by assumption)).2.2.1).out.mono ?_; rintro e w' ⟨rfl, hb⟩)
            | (go_at_call 12; refine (C3 _ _ (jw_of (by assumption)).2.2.2.1 (jw_of (by assumption)).2.2.2.2).out.mono ?_; rintro e w' ⟨rfl, hb⟩)
            | (go_at_call 13; refine (C4 _ _ (jw_of (by assumption)).2.2.1).out.mono ?_; rintro e w' ⟨rfl, hb⟩)
            | (go_at_call 14; refine (C5 _ _ (jw_of (by assumption)).2.2.2.1).out.mono ?_; rintro e w' ⟨rfl, hb⟩)
            | (go_at_call 15; refine (C6 _ _ (jw_of (by assumption)).2.2.1).out.mono ?_; rintro e w' ⟨rfl, hb⟩)
            | (go_at_call 17; refine (C7 _ _ (jw_of (by assumption)).2.2.2.1).out.mono ?_; rintro e w' ⟨Av, cv, rfl, hva, hba⟩)
            | (go_at_call 18; refine (C8 _ _ (jw_of (by assumption)).2.2.1).out.mono ?_; rintro e w' ⟨Aw, cw, rfl, hvb, hbb⟩)
            | (go_at_call 16; refine (ST _ _ _ _ _ (by first | exact hva | exact hva.on hbb) (by first | exact hvb | exact hvb.on hba)).out.mono ?_; rintro e w' ⟨rfl, hb⟩)
            | (go_at_call 19; refine (C9 _ _ _ (jw_of (by assumption)).2.2.2.1 (jw_of (by assumption)).2.2.1).out.mono ?_; rintro e w' ⟨rfl, hb⟩)
            | (go_at_call 5; refine (AW _ (jw_of (by assumption)).1.low).out.mono ?_; rintro e w' ⟨rfl, hb⟩)))
        all_goals
          have KB := Lib.hid (jw_of (by assumption)).1.low
          go_wp2_with fail
          go_ret
          exact ⟨rfl, KB.out⟩
end Go.Proofs.YtnmidlbhkjcimaaDoor.LVSays
