/- The walks of value.Get, Int and Text. -/
import Derived.Test.YtcdcfhplkimecaaDoorVGet
import Derived.Test.YtcdcfhplkimecaaDoorVPair
import Derived.Deep.RegionHeld3
import Derived.Test.YtcdcfhplkimecaaDoorVFrame
namespace Go.Proofs.YtcdcfhplkimecaaDoor
open Go.RowKit

theorem pint_any (z : Int) (w : World) :
    Calls Tryd.prog 27 #[.int .i64 z] w fun e w' => e = .returned (.agg #[.int .i64 2, .int .i64 z, .string ⟨#[]⟩, .slice none 0 0, .slice none 0 0]) ∧ Below w.heap.size w w' := by
  go_enter Tryd.func27, Tryd.ntmps27
  go_wp2_with fail
  exact ret_v1 rfl rfl rfl (heap_alloc_new _ _) ⟨rfl, (Below.refl _ _).alloc (Nat.le_refl _) _⟩
theorem ptext_any (s : ByteArray) (w : World) :
    Calls Tryd.prog 29 #[.string s] w fun e w' => e = .returned (.agg #[.int .i64 4, .int .i64 0, .string s, .slice none 0 0, .slice none 0 0]) ∧ Below w.heap.size w w' := by
  go_enter Tryd.func29, Tryd.ntmps29
  go_wp2_with fail
  exact ret_v1 rfl rfl rfl (heap_alloc_new _ _) ⟨rfl, (Below.refl _ _).alloc (Nat.le_refl _) _⟩
theorem five_set {w : World} {b : Nat} {z0 z1 z2 z3 z4 v0 v1 v2 v3 v4 : Value} {t : TypeId} (h : w.heap[b]? = some (.cells #[z0, z1, z2, z3, z4] t (0, 0))) : (((((w.setCell ⟨b, 0, none⟩ v0).setCell ⟨b, 1, none⟩ v1).setCell ⟨b, 2, none⟩ v2).setCell ⟨b, 3, none⟩ v3).setCell ⟨b, 4, none⟩ v4).heap[b]? = some (.cells #[v0, v1, v2, v3, v4] t (0, 0)) :=
  heap_setCell_same _ b 4 _ _ _ (heap_setCell_same _ b 3 _ _ _ (heap_setCell_same _ b 2 _ _ _ (heap_setCell_same _ b 1 _ _ _ (heap_setCell_same _ b 0 _ _ _ h))))
theorem gfive_cells {w : World} {b : Nat} {z0 z1 z2 z3 z4 : Value} {t : TypeId} (h : w.heap[b]? = some (.cells #[z0, z1, z2, z3, z4] t (0, 0))) : w.cell? ⟨b, 0, none⟩ = some z0 ∧ w.cell? ⟨b, 1, none⟩ = some z1 ∧ w.cell? ⟨b, 2, none⟩ = some z2 ∧ w.cell? ⟨b, 3, none⟩ = some z3 ∧ w.cell? ⟨b, 4, none⟩ = some z4 ∧ ∀ i, w.frozen? ⟨b, i, none⟩ = false := by
  refine ⟨?_, ?_, ?_, ?_, ?_, fun i => ?_⟩
  all_goals first | (simp only [World.cell?, h]; rfl) | simp [World.frozen?, h]
def ResAt (w wx : World) : Prop := wx.heap[w.heap.size]? = some (.cells #[.int .i64 0, .int .i64 0, .string ⟨#[]⟩, .slice none 0 0, .slice none 0 0] 25 (0, 0)) ∧ w.heap.size < wx.heap.size ∧ Below w.heap.size w wx
theorem ResAt.alloc {w wx : World} (h : ResAt w wx) (o : Obj) : ResAt w (wx.alloc o) :=
  ⟨(Below.heap_alloc _ _ _ h.2.1).trans h.1, by have := h.2.1; simp; omega, h.2.2.alloc (Nat.le_of_lt h.2.1) o⟩
set_option maxRecDepth 100000 in
set_option maxHeartbeats 4000000 in
theorem pget_any (s : ByteArray) (m : VM) (A : Option Addr) (c : Nat) (w : World) (B : Nat) (hB : B ≤ w.heap.size) (hm : m.len ≤ 9223372036854775807) (hM : MAt w B m A 0) :
    Calls Tryd.prog 25 #[.string s, .slice A m.len c] w fun e w' => ∃ d0 d1 d2 d3 d4, e = .returned (.tuple #[.agg #[d0, d1, d2, d3, d4], .bool (getM m s).2]) ∧ VAt w' B (getM m s).1 d0 d1 d2 d3 d4 ∧ Below w.heap.size w w' := by
  have HM := Lib.hid hM
  have HB0 := Lib.hid hB
  clear hM hB
  have h0 := Lib.hid (show ResAt w (w.alloc (.cells #[.int .i64 0, .int .i64 0, .string ⟨#[]⟩, .slice none 0 0, .slice none 0 0] 25)) from ⟨heap_alloc_new _ _, by simp, (Below.refl _ _).alloc (Nat.le_refl _) _⟩)
  go_enter Tryd.func25, Tryd.ntmps25
  go_wp2_with fail
  go_loopg [10] m.len (fun g i wx => ∃ q : Nat, q + g = m.len ∧ i = .int .i64 q ∧ Aside (getM (m.drop q) s = getM m s ∧ ResAt w wx))
  case atStart => exact ⟨0, by omega, rfl, vaside ⟨by rw [VM.drop_zero], h0.out⟩⟩
  case round =>
    obtain ⟨q, hq, rfl, HA⟩ := hrel
    have HD := Lib.hid HA.1
    have HR := Lib.hid HA.2
    clear HA h0
    cases gk with
    | zero =>
      obtain rfl : q = m.len := by omega
      have hG : Hid (getM m s = (.zero, false)) := Lib.hid (by rw [← HD.out, VM.drop_all]; rfl)
      obtain ⟨y0, y1, y2, y3, y4, yf⟩ := gfive_cells HR.out.1
      have yf0 := yf 0
      have yf1 := yf 1
      have yf2 := yf 2
      have yf3 := yf 3
      have yf4 := yf 4
      clear yf
      go_wp2_with fail
      refine ret_v2 rfl rfl rfl (five_set HR.out.1) ?_
      rw [hG.out]
      exact got rfl (zeroAt _ _) (((((HR.out.2.2.setCell (p := ⟨_, _, none⟩) (Nat.le_refl _) _).setCell (p := ⟨_, _, none⟩) (Nat.le_refl _) _).setCell (p := ⟨_, _, none⟩) (Nat.le_refl _) _).setCell (p := ⟨_, _, none⟩) (Nat.le_refl _) _).setCell (p := ⟨_, _, none⟩) (Nat.le_refl _) _)
    | succ g =>
      have hqn : q < m.len := by omega
      have hqn' : (q : Int) < (m.len : Int) := by omega
      obtain ⟨⟨nm, v⟩, hv⟩ := VM.get_lt hqn
      obtain ⟨b, o, d0, d1, d2, d3, d4, rfl, hblt, hnm, hns, hF, hV⟩ := MAt.at (MAt.below (HR.out.2.2.mono HB0.out) _ _ _ HM.out) hv
      rw [Nat.zero_add] at hF hnm
      obtain ⟨g0, g1, g2, g3, g4⟩ := hF
      have hd := Lib.hid (VM.drop_get hv)
      have HV := Lib.hid hV
      obtain ⟨vk, vn, vs, vl, vm⟩ := v
      unfold VAt at hV
      obtain ⟨rfl, rfl, rfl, _, ⟨A3, c3', rfl, _, _⟩, A4, c4', rfl, _, _⟩ := hV
      have HR1 := Lib.hid (HR.out.alloc (.cells #[.string nm, .int .i64 vk, .int .i64 vn, .string vs, .slice A3 vl.len c3', .slice A4 vm.len c4'] 47))
      have HVr := Lib.hid (VAt.below ((Below.refl B wr).alloc (Nat.le_trans HB0.out (Nat.le_of_lt HR.out.2.1)) (.cells #[.string nm, .int .i64 vk, .int .i64 vn, .string vs, .slice A3 vl.len c3', .slice A4 vm.len c4'] 47)) _ _ _ _ _ _ HV.out)
      have hlt := HR.out.2.1
      clear hv
      by_cases hnn : nm = s
      · subst hnn
        have e1' : (nm.toList == nm.toList) = true := by simp
        have hG : Hid (getM m nm = (.mk vk vn vs vl vm, true)) := Lib.hid (by rw [← HD.out, hd.out, getM, if_pos rfl])
        obtain ⟨y0, y1, y2, y3, y4, yf⟩ := gfive_cells HR1.out.1
        obtain ⟨x0, x1, x2, x3, x4, xf⟩ := gfive_cells HR.out.1
        have yf0 := yf 0
        have yf1 := yf 1
        have yf2 := yf 2
        have yf3 := yf 3
        have yf4 := yf 4
        have xf0 := xf 0
        have xf1 := xf 1
        have xf2 := xf 2
        have xf3 := xf 3
        have xf4 := xf 4
        clear yf xf
        have hB5 := fun (B' : Nat) (w' : World) (h : Below B' w' wr) (hB' : B' ≤ w.heap.size) => (((((h.setCell (p := ⟨w.heap.size, 0, none⟩) hB' (.int .i64 vk)).setCell (p := ⟨w.heap.size, 1, none⟩) hB' (.int .i64 vn)).setCell (p := ⟨w.heap.size, 2, none⟩) hB' (.string vs)).setCell (p := ⟨w.heap.size, 3, none⟩) hB' (.slice A3 vl.len c3')).setCell (p := ⟨w.heap.size, 4, none⟩) hB' (.slice A4 vm.len c4'))
        have H5 := Lib.hid (fun (B' : Nat) (w' : World) (h : Below B' w' wr) (hB' : B' ≤ w.heap.size) => (hB5 B' w' h hB').alloc (Nat.le_trans hB' (hB5 w.heap.size w HR.out.2.2 (Nat.le_refl _)).size) (.cells #[.string nm, .int .i64 vk, .int .i64 vn, .string vs, .slice A3 vl.len c3', .slice A4 vm.len c4'] 47))
        clear hB5
        go_wp2_with fail
        refine ret_v2 rfl rfl rfl ((Below.heap_alloc _ _ _ (by simp only [World.setCell, Array.size_modify]; exact HR.out.2.1)).trans (five_set HR.out.1)) ?_
        rw [hG.out]
        exact got rfl (VAt.below (H5.out B wr (Below.refl _ _) HB0.out) _ _ _ _ _ _ HV.out) (H5.out _ _ HR.out.2.2 (Nat.le_refl _))
      · have hne : nm.toList ≠ s.toList := fun h => hnn (by
          rw [ByteArray.toList_eq, ByteArray.toList_eq] at h
          exact ByteArray.ext (Array.toList_inj.1 h))
        have e1' : (nm.toList == s.toList) = false := by simpa using hne
        have hN : Hid (getM (m.drop (q + 1)) s = getM m s) := Lib.hid (by rw [← HD.out, hd.out, getM, if_neg hnn])
        clear hne hnn
        go_wp2_with fail
        go_roundg g
        case measure => omega
        case rel => exact ⟨q + 1, by omega, by go_num, vaside ⟨hN.out, HR1.out⟩⟩
end Go.Proofs.YtcdcfhplkimecaaDoor
/- The walk of the law ValueGets. -/
namespace Go.Proofs.YtcdcfhplkimecaaDoor.LVGets
open Go.RowKit

theorem intLive (w : World) (z : Int) : LiveV w (.agg #[.int .i64 2, .int .i64 z, .string ⟨#[]⟩, .slice none 0 0, .slice none 0 0]) (.mk 2 z ⟨#[]⟩ .nil .nil) := ⟨_, _, _, _, _, rfl, intAt w _ z⟩
theorem textLive (w : World) (s : ByteArray) (hs : s.size ≤ 9223372036854775807) : LiveV w (.agg #[.int .i64 4, .int .i64 0, .string s, .slice none 0 0, .slice none 0 0]) (.mk 4 0 s .nil .nil) := ⟨_, _, _, _, _, rfl, textAt w _ s hs⟩
theorem memAt (w : World) (m : VM) (A : Option Addr) (c : Nat) (hm : m.len ≤ 9223372036854775807) (h : MAt w w.heap.size m A 0) : LiveV w (.agg #[.int .i64 0, .int .i64 0, .string ⟨#[]⟩, .slice none 0 0, .slice A m.len c]) (.mk 0 0 ⟨#[]⟩ .nil m) := by
  refine ⟨_, _, _, _, _, rfl, ?_⟩
  unfold VAt
  exact ⟨rfl, rfl, rfl, Nat.zero_le _, ⟨none, 0, rfl, by simp [VL.len], by unfold LAt; trivial⟩, A, c, rfl, hm, h⟩
set_option maxRecDepth 100000 in
set_option maxHeartbeats 8000000 in
theorem law (m : VM) (A : Option Addr) (c : Nat) (s : ByteArray) (z : Int) (w : World) (hm : m.len ≤ 9223372036854775807) (hM : MAt w w.heap.size m A 0) (hs : s.size ≤ 9223372036854775807) (hw : Laid5 w) :
    Calls Tryd.prog 5 #[.slice A m.len c, .string s, .int .i64 z] w fun e w' => e = .returned (.bool true) ∧ Below w.heap.size w w' := by
  obtain ⟨n, hn⟩ : ∃ n, W64 (sizeV (.mk 0 0 ⟨#[]⟩ .nil m)) = n := ⟨_, rfl⟩
  have HZ : Hid (Calls Tryd.prog 8 #[.agg #[.int .i64 0, .int .i64 0, .string ⟨#[]⟩, .slice none 0 0, .slice A m.len c]] w fun e w' => e = .returned (.int .i64 n) ∧ Below w.heap.size w w') := Lib.hid (by have h := live_size (memAt w m A c hm hM); rw [hn] at h; exact h)
  have HG := fun wx (hx : Below w.heap.size w wx) => Lib.hid (pget_any s m A c wx w.heap.size hx.size hm (MAt.below hx _ _ _ hM))
  have HR := fun wx (hx : Below w.heap.size w wx) => Lib.hid (rget_any s m A c wx w.heap.size hx.size hm (MAt.below hx _ _ _ hM))
  have HA := fun wx (hx : Below w.heap.size w wx) => Lib.hid (vawake_any wx (hw.below hx))
  have HTX := fun wx => Lib.hid (textLive wx s hs)
  obtain ⟨g, hg⟩ : ∃ g, getM m s = g := ⟨_, rfl⟩
  rw [hg] at HG HR
  clear hn hM hw hg
  by_cases h1 : n > 2000
  · go_enter Tryd.func5, Tryd.ntmps5
    go_wp2_with fail
    refine HZ.out.mono ?_
    rintro e w2 ⟨rfl, hb2⟩
    have B2 := Lib.hid hb2
    clear hb2
    go_wp2_with fail
    refine (HA _ B2.out).out.mono ?_
    rintro e w3 ⟨rfl, hb3⟩
    have B3 := Lib.hid (two_below B2.out hb3)
    clear hb3
    go_wp2_with fail
    go_ret
    exact ⟨rfl, B3.out⟩
  · by_cases h2 : (s.size : Int) > 2000
    · go_enter Tryd.func5, Tryd.ntmps5
      go_wp2_with fail
      refine HZ.out.mono ?_
      rintro e w2 ⟨rfl, hb2⟩
      have B2 := Lib.hid hb2
      clear hb2
      go_wp2_with fail
      refine (HA _ B2.out).out.mono ?_
      rintro e w3 ⟨rfl, hb3⟩
      have B3 := Lib.hid (two_below B2.out hb3)
      clear hb3
      go_wp2_with fail
      go_ret
      exact ⟨rfl, B3.out⟩
    · go_enter Tryd.func5, Tryd.ntmps5
      go_wp2_with fail
      refine HZ.out.mono ?_
      rintro e w2 ⟨rfl, hb2⟩
      have B2 := Lib.hid hb2
      clear hb2
      go_wp2_with fail
      refine (HG _ B2.out).out.mono ?_
      rintro e w3 ⟨d0, d1, d2, d3, d4, rfl, hv3, hb3⟩
      have B3 := Lib.hid (two_below B2.out hb3)
      have HV3 := Lib.hid hv3
      obtain ⟨⟨gk, gn, gs, gl, gm⟩, gb⟩ := g
      unfold VAt at hv3
      obtain ⟨rfl, rfl, rfl, _, ⟨A3, c3', rfl, _, _⟩, A4, c4', rfl, _, _⟩ := hv3
      have H4 := Lib.hid (alloc_same w3 (.cells #[.int .i64 gk, .int .i64 gn, .string gs, .slice A3 gl.len c3', .slice A4 gm.len c4'] 25))
      clear hb3
      go_wp2_with fail
      refine (HR _ (two_below B3.out H4.out)).out.mono ?_
      rintro e w5 ⟨f0, f1, f2, f3, f4, rfl, hv5, hb5⟩
      have B5 := Lib.hid (two_below (two_below B3.out H4.out) hb5)
      have HV5 := Lib.hid hv5
      obtain ⟨y0, y1, y2, y3, y4⟩ := (five_at_new w3 (.int .i64 gk) (.int .i64 gn) (.string gs) (.slice A3 gl.len c3') (.slice A4 gm.len c4') 25 rfl).below hb5 (by simp)
      unfold VAt at hv5
      obtain ⟨rfl, rfl, rfl, _, ⟨A5, c5', rfl, _, _⟩, A6, c6', rfl, _, _⟩ := hv5
      have H6 := alloc_same w5 (.cells #[.int .i64 gk, .int .i64 gn, .string gs, .slice A5 gl.len c5', .slice A6 gm.len c6'] 25)
      have hlt : w3.heap.size < w5.heap.size := Nat.lt_of_lt_of_le (by simp) hb5.size
      have hL1 : LiveV w5 (.agg #[.int .i64 gk, .int .i64 gn, .string gs, .slice A3 gl.len c3', .slice A4 gm.len c4']) (.mk gk gn gs gl gm) := ⟨_, _, _, _, _, rfl, VAt.more B5.out.size _ _ _ _ _ _ (VAt.below ((two_below H4.out hb5).mono B3.out.size) _ _ _ _ _ _ HV3.out)⟩
      have hL2 : LiveV w5 (.agg #[.int .i64 gk, .int .i64 gn, .string gs, .slice A5 gl.len c5', .slice A6 gm.len c6']) (.mk gk gn gs gl gm) := ⟨_, _, _, _, _, rfl, VAt.more B5.out.size _ _ _ _ _ _ HV5.out⟩
      have HS := Lib.hid (by have h := live_rsame (hL1.below H6) (hL2.below H6); rw [samB_self] at h; exact h)
      have B6 := Lib.hid (two_below B5.out H6)
      clear hb5 hL1 hL2 H6
      go_wp2_with fail
      refine HS.out.mono ?_
      rintro e w7 ⟨rfl, hb7⟩
      have B7 := Lib.hid (two_below B6.out hb7)
      clear hb7 y0 y1 y2 y3 y4
      go_wp2_with fail
      refine (pint_any z _).mono ?_
      rintro e w8 ⟨rfl, hb8⟩
      have B8 := Lib.hid (two_below B7.out hb8)
      clear hb8
      go_wp2_with fail
      refine (rint_any z _).mono ?_
      rintro e w9 ⟨rfl, hb9⟩
      have B9 := Lib.hid (two_below B8.out hb9)
      have HS9 := Lib.hid (by have h := live_rsame (intLive w9 z) (intLive w9 z); rw [samB_self] at h; exact h)
      clear hb9
      go_wp2_with fail
      refine HS9.out.mono ?_
      rintro e w10 ⟨rfl, hb10⟩
      have B10 := Lib.hid (two_below B9.out hb10)
      clear hb10
      go_wp2_with fail
      refine (ptext_any s _).mono ?_
      rintro e w11 ⟨rfl, hb11⟩
      have B11 := Lib.hid (two_below B10.out hb11)
      clear hb11
      go_wp2_with fail
      refine (rtext_any s _).mono ?_
      rintro e w12 ⟨rfl, hb12⟩
      have B12 := Lib.hid (two_below B11.out hb12)
      have HS12 := Lib.hid (by have h := live_rsame (HTX w12).out (HTX w12).out; rw [samB_self] at h; exact h)
      clear hb12
      go_wp2_with fail
      refine HS12.out.mono ?_
      rintro e w13 ⟨rfl, hb13⟩
      have B13 := Lib.hid (two_below B12.out hb13)
      clear hb13
      go_wp2_with fail
      refine (HA _ B13.out).out.mono ?_
      rintro e w14 ⟨rfl, hb14⟩
      have B14 := Lib.hid (two_below B13.out hb14)
      clear hb14
      go_wp2_with fail
      go_ret
      exact ⟨rfl, B14.out⟩
end Go.Proofs.YtcdcfhplkimecaaDoor.LVGets
/- The law ValueGets is proved: for every input the law answers true, and its arguments read behind it as they did. Condition: the listed package variables (seine/letters.shapes, the library's strconv.ErrRange, its table of powers and their like) hold what the program's text lays in them (the card ties that). -/
namespace Go.Proofs.YtcdcfhplkimecaaDoor.LVGets
open Go.ChangeShapes Go.WideShapes Go.ChangeAt Go.RowKit

set_option maxRecDepth 100000 in
theorem contract (H : Type) (enc : TypeId × Value → H) (W : World) (base : Nat) (args : Array Value) (ds gs : List (DataW H)) (before : List MemPlace)
    (hval : ∀ (j : Nat) t v, Tryd.f5.params[j]? = some t → args[j]? = some v → Value.okWide Tryd.prog W .any base t v)
    (hW : DataW.Whole enc Tryd.prog Tryd.f5.params.toList Rows.valueGetsSpec.vars false W args.toList ds gs before) (hL : laidMetH Tryd.prog Rows.valueGetsRow.laid W)
    (hz : (DataW.weightsEach Tryd.prog (Tryd.f5.params.toList ++ (OpenSpec.ofChange Rows.valueGetsSpec).bare.plain.varTypes Tryd.prog) (ds ++ gs)).all (· ≤ reachBytes) = true) :
    Calls Tryd.prog 5 args W fun e W' => ∃ v, e = .returned v ∧ Rows.valueGetsSpec.post enc Tryd.prog Tryd.f5 false true false false W args v W' := by
  have hW' := hW
  obtain ⟨p, q, hA0, hV, rfl, hfz, hnd⟩ := hW
  have hA : DataW.TrodAll enc Tryd.prog W 0 (fun _ => true) true Tryd.f5.params.toList args.toList ds p := hA0
  rw [Tryd.params5] at hA hval
  obtain ⟨a0, vs0, d0, ds0, p0, q0, hargs, rfl, rfl, h0, e0⟩ := trodAll_cons hA
  obtain ⟨a1, vs1, d1, ds1, p1, q1, rfl, rfl, rfl, h1, e1⟩ := trodAll_cons e0
  obtain ⟨a2, vs2, d2, ds2, p2, q2, rfl, rfl, rfl, h2, e2⟩ := trodAll_cons e1
  obtain ⟨rfl, rfl, rfl⟩ := trodAll_nil e2
  obtain rfl : args = #[a0, a1, a2] := by cases args; simp_all
  obtain ⟨rfl, rfl⟩ := trodVars_none hV
  obtain ⟨t0, A0, c0, rfl, g0, v0⟩ := open_mems (hval 0 23 a0 rfl rfl) h0
  obtain ⟨t1, rfl, rfl, rfl, w1⟩ := Go.ChangeMaps.open_string Tryd.underlying9 (hval 1 9 a1 rfl rfl) h1
  obtain ⟨t2, rfl, rfl, rfl, w2⟩ := open_int Tryd.underlying2 (hval 2 2 a2 rfl rfl) h2
  clear hA0
  refine (law _ _ _ _ _ W g0 v0 w1 (laid5_of hL)).mono fun e W' ⟨he, hb⟩ => ?_
  subst he
  exact ⟨_, rfl, law_post hW' rfl (by kernel_rfl) (by rw [Tryd.params5]; decide +kernel) rfl rfl rfl hb⟩

theorem laid_met (os : Os) : laidMet Tryd.prog Rows.valueGetsRow.laid ((laidWorld os).forCall (fun _ _ => 0) ⟨#[], #[.slice none 0 0, .string ⟨#[]⟩, .int .i64 0], []⟩).memory :=
  laidWorld_met os _
theorem reads (os : Os) {H : Type} (enc : TypeId × Value → H) : ∃ places, DataW.whole enc Tryd.prog ((laidWorld os).forCall (fun _ _ => 0) ⟨#[], #[.slice none 0 0, .string ⟨#[]⟩, .int .i64 0], []⟩).memory Tryd.f5.params.toList Rows.valueGetsSpec.vars false #[Value.slice none 0 0, .string ⟨#[]⟩, .int .i64 0].toList 8 = some ([.nil, .lit (.string []), .lit (.int .i64 0)], [], places) :=
  ⟨[], by kernel_rfl⟩

set_option maxRecDepth 100000 in
theorem lifted (os : Os) (started : os.Started) (H : Type) (enc : TypeId × Value → H) (F : Stop.Interp) :
    ReturnsInHanded {} Tryd.checked os 5 .any ((OpenSpec.ofChange Rows.valueGetsSpec).preRow enc Tryd.prog Tryd.f5 Rows.valueGetsRow.domain false Rows.valueGetsRow.laid) (((OpenSpec.ofChange Rows.valueGetsSpec).at F).post enc Tryd.prog Tryd.f5 false true false false) := by
  obtain ⟨places, hx⟩ := reads os enc
  refine returnsInHanded_of_row (C := Tryd.checked) (s := (OpenSpec.ofChange Rows.valueGetsSpec)) own started (by kernel_rfl) Tryd.func5
    (witness_row_at (enc := enc) (C := Tryd.checked) false (laidWorld os) #[.slice none 0 0, .string ⟨#[]⟩, .int .i64 0] (World.laidAll_os _ _ _) (by kernel_rfl) (by kernel_rfl) (by kernel_rfl)
      (OpenSpec.preRow_of_cond 8 hx (by kernel_rfl) (fun k hk => by cases hk) (by kernel_rfl) (laid_met os))) ?_
  intro W base args ds gs before hval hW hcond _ hz hL _ _
  exact contract H enc W base args ds gs before hval hW hL hz

theorem said : Rows.ValueGetsSaid :=
  OpenClaim.holds_of_cond 5 Tryd.f5 rfl rfl rfl rfl rfl rfl rfl ⟨rfl, rfl, rfl, rfl, rfl⟩ rfl rfl rfl rfl rfl (by kernel_rfl) Tryd.func5 (by kernel_rfl)
    (of_decide_eq_true (by kernel_rfl)) (by unfold Func.isWrapper; first | (rw [if_pos (by decide +kernel)]; kernel_rfl) | (rw [if_neg (by decide +kernel)]; exact ⟨rfl, rfl⟩))
    (fun os started H enc _ F => by rw [OpenClaim.pre_eq_preRow]; exact lifted os started H enc F)

theorem plain (f : FuncId) (fn : Func) (hf : Tryd.pinned.checked.prog.funcNamed "seine/seinelaw5.ValueGets" = some f) (hfn : Tryd.pinned.checked.prog.funcs[f]? = some fn) :
    true = Tryd.pinned.checked.prog.looks [] ∧ ∀ (j : Nat) t, fn.params[j]? = some t → Tryd.pinned.checked.prog.wantsStandIn t = false := by
  obtain rfl : f = 5 := Option.some.inj ((show Tryd.prog.funcNamed "seine/seinelaw5.ValueGets" = some 5 by kernel_rfl).symm.trans hf) |>.symm
  obtain rfl : fn = Tryd.f5 := (Option.some.inj (Tryd.func5.symm.trans hfn)).symm
  refine ⟨by kernel_rfl, fun j t ht => ?_⟩
  rw [Tryd.params5] at ht
  have hall : ∀ t ∈ [23, 9, 2], Tryd.prog.wantsStandIn t = false := by decide +kernel
  exact hall t (by simpa using Array.mem_of_getElem? ht)

theorem card : Rows.ValueGetsCardSaid :=
  Claim7.holds_tied_plain_at .later [] _ _ _ _ said (fun _ h => by cases h) (by kernel_rfl) (fun _ h => by cases h) valueGets_row_tie rfl ⟨rfl, rfl⟩ (by kernel_rfl) rfl plain (by kernel_rfl)
end Go.Proofs.YtcdcfhplkimecaaDoor.LVGets
