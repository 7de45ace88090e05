/- literal's fits. (gen_fits.py wrote it.) -/
import Derived.Test.YtcfdfgbobnocnaaGreatDoorTNum2
import Derived.Test.YtcfdfgbobnocnaaGreatDoorVSound
import Derived.Test.YtcfdfgbobnocnaaGreatDoorLtEls
import Derived.Test.YtcfdfgbobnocnaaGreatDoorLtNamed
namespace Go.Proofs.YtcfdfgbobnocnaaGreatDoor
open Go.RowKit

theorem check_two {p : List UInt8 → Bool} {k n : Int} {s : ByteArray} {l : VL} {m : VM} {b1 b2 : Bool} (h1 : soundB k n s.data.toList l.len m.len = b1) (h2 : namesB p m = b2) : checkV p (.mk k n s l m) = (b1 && b2) := by
  rw [checkV, h1, h2]
/-- append of nothing to a row that is owned. -/
theorem wpList_append_nil {P : Program} {w : World} {ops : Array Oper} {rest : List Oper} {o : Oper} {a : Act} {Q : Exit → Act → World → Prop} (hgd : o.guard = none) (s x : Operand) (t : TypeId)
    (ho : o.op = .call { callee := .builtin .append, args := #[s, x], argTypes := #[t, t] })
    (base : Nat) (e : TypeId) (i : TypeInfo) (size : Nat) (ht : P.underlying t = some (.slice e)) (hi : P.info? e = some i)
    (v : Value) (n c : Nat) (xs : List Value) (hs : a.eval s = v) (hown : w.ownsRow base e size v n xs) (hx : a.eval x = .slice none 0 c)
    (h : wpList P ops Q rest (a.put o.dst v) w) : wpList P ops Q (o :: rest) a w := by
  refine wpList_plain hgd fun K hK => ?_
  have hrun : (Builtin.append_ #[t, t] o.type #[v, .slice none 0 c]).run P w = .ok v w := by
    rcases hown.2 with ⟨rfl, rfl⟩ | ⟨g, cap, cur, rfl, _, _, hnc, _⟩
    · simp [Builtin.append_, run_underlying ht, sizeOf, typeInfo, hi, Builtin.lenOf, Builtin.firstCells]
    · simp [Builtin.append_, run_underlying ht, sizeOf, typeInfo, hi, Builtin.lenOf, Builtin.firstCells, hnc, storeCells]
  unfold Oper.wp
  simp [execOp, ho, resolve, invoke, builtin, hs, hx, hrun, Result.andThen]
  exact hK _ _ h
theorem RowV.none {w : World} {B : Nat} {l : VL} (h : RowV w B l none) : l = .nil := by
  cases l with
  | nil => rfl
  | cons v t => obtain ⟨_, _, _, _, _, _, _, hA, _⟩ := h 0 v rfl; cases hA
theorem RowV.one {w : World} {B b : Nat} {v : VT} {c0 c1 c2 c3 c4 : Value} (hb : b < w.heap.size) (hf : Five w b 0 c0 c1 c2 c3 c4) (hv : VAt w B v c0 c1 c2 c3 c4) : RowV w B (.cons v .nil) (some ⟨b, 0, .none⟩) := fun j x hj => by
  match j, hj with
  | 0, hj =>
    have : v = x := by simpa [VL.get] using hj
    subst this
    exact ⟨b, 0, c0, c1, c2, c3, c4, rfl, hb, by rw [Nat.zero_mul, Nat.add_zero]; exact hf, hv⟩
  | j + 1, hj => simp [VL.get] at hj
theorem level_next {wo wi w4 w5 : World} {B n : Nat} {V : Value} {xs : List Value} (hBo : B ≤ wo.heap.size) (hoi : Below wo.heap.size wo wi) (hi4 : Below wi.heap.size wi w4) (hown : wi.ownsRow wo.heap.size 30 5 V n xs) (hg : w4.grownBy w5 V.ownBlock) :
    Below wo.heap.size wo w5 ∧ Below B wi w5 ∧ Below B w4 w5 := by
  have h1 := hoi.trans (hi4.mono hoi.size)
  have hr : ∀ k, V.ownBlock = some k → wo.heap.size ≤ k := fun k hk => (hown.lt k hk).1
  have hB4 : B ≤ w4.heap.size := Nat.le_trans hBo h1.size
  exact ⟨h1.grown hg h1.size hr, (hi4.mono (Nat.le_trans hBo hoi.size)).grown hg hB4 (fun k hk => Nat.le_trans hBo (hr k hk)), (Below.refl B w4).grown hg hB4 (fun k hk => Nat.le_trans hBo (hr k hk))⟩
theorem five_at_new (w : World) (a0 a1 a2 a3 a4 : Value) (t : TypeId) {n : Nat} (hn : n = w.heap.size) : Five (w.alloc (.cells #[a0, a1, a2, a3, a4] t)) n 0 a0 a1 a2 a3 a4 := by
  subst hn
  exact ⟨by rw [World.cell?_alloc_at _ _ _ _ rfl]; rfl, by rw [World.cell?_alloc_at _ _ _ _ rfl]; rfl, by rw [World.cell?_alloc_at _ _ _ _ rfl]; rfl, by rw [World.cell?_alloc_at _ _ _ _ rfl]; rfl, by rw [World.cell?_alloc_at _ _ _ _ rfl]; rfl⟩
set_option maxRecDepth 100000 in
set_option maxHeartbeats 8000000 in
theorem vfits_any (fn : Nat) (p : List UInt8 → Bool) (hp : TestC fn p) (v : VT) (hz : sizeV v ≤ 1100000) (c0 c1 c2 c3 c4 : Value) (w : World) (B : Nat) (hB : B ≤ w.heap.size) (hv : VAt w B v c0 c1 c2 c3 c4) (hw : Laid5 w) :
    Calls Tryz.prog 48 #[.agg #[c0, c1, c2, c3, c4], .func (.func fn) #[] #[]] w fun e w' => e = .returned (.bool (fitV p v)) ∧ Below w.heap.size w w' := by
  have HP := Lib.hid hp
  have HB0 := Lib.hid hB
  have HV := Lib.hid hv
  have HW := Lib.hid hw
  have HZ := Lib.hid hz
  have hsz : Hid (sizeV v = sizeL (.cons v .nil)) := Lib.hid (by rw [sizeL, sizeL]; omega)
  obtain ⟨k, n, s, l, m⟩ := v
  generalize hU : VT.mk k n s l m = U at *
  rw [← hU] at hv
  unfold VAt at hv
  obtain ⟨rfl, rfl, rfl, _, ⟨A, c, rfl, hl, hL⟩, A', c', rfl, hm, hM⟩ := hv
  obtain ⟨i0, hi, hz0, hz1, hz2⟩ := info_parts info_val
  clear hL hM hp hB hw hz hU
  go_enter Tryz.func48, Tryz.ntmps48
  go_wp2
  go_step3
  go_wp2_with fail
  go_step3
  go_wp2_with fail
  have hb1 : Below w.heap.size w (w.alloc (.cells #[.int .i64 k, .int .i64 n, .string s, .slice A l.len c, .slice A' m.len c'] 30)) := (Below.refl _ _).alloc (Nat.le_refl _) _
  have HB2 := Lib.hid (hb1.alloc (by simp) (.cells #[.int .i64 k, .int .i64 n, .string s, .slice A l.len c, .slice A' m.len c'] 30))
  have HR2 := Lib.hid (RowV.one (v := U) (by simp) (five_at_new (w.alloc (.cells #[.int .i64 k, .int .i64 n, .string s, .slice A l.len c, .slice A' m.len c'] 30)) _ _ _ _ _ 30 (n := w.heap.size + 1) (by simp)) (VAt.below (HB2.out.mono HB0.out) _ _ _ _ _ _ HV.out))
  clear hb1
  go_loopg [5, 6] (sizeV U) (fun g ft lev wx => ∃ (lv : VL) (Al : Option Addr) (cl : Nat), sizeL lv ≤ g ∧ lev = .slice Al lv.len cl ∧ ft = .bool true ∧ g ≤ 1100000 ∧ Below w.heap.size w wx ∧ Aside (RowV wx B lv Al ∧ fitL p lv = fitV p U))
  case atStart => exact ⟨.cons U .nil, _, _, by rw [← hsz.out]; exact Nat.le_refl _, rfl, rfl, HZ.out, HB2.out, vaside ⟨HR2.out, by rw [fitL, fitL]; simp⟩⟩
  case round =>
    obtain ⟨lv, Al, cl, hsl, rfl, rfl, hg9, hb, HA⟩ := hrel
    have HBB := Lib.hid hb
    have HRR := Lib.hid HA.1
    have HFF := Lib.hid HA.2
    have hwr := hb.size
    have hlv := len_size lv
    clear hb HA HB2 HR2
    by_cases h0 : lv.len = 0
    · have hG : Hid (fitV p U = true) := Lib.hid (by rw [← HFF.out, VL.nil_of_len h0]; rfl)
      rw [h0]
      go_wp2_with fail
      simp only [Exit.noGoto_ret]
      go_ret
      exact ⟨ret_bool hG.out.symm, HBB.out⟩
    · have h0' : (0 : Int) < (lv.len : Int) := by omega
      have h0n : 0 < lv.len := by omega
      have hBr := Nat.le_trans HB0.out hwr
      go_wp2_with fail
      go_loopg [5, 7, 17] lv.len (fun g2 ft nxt i wx => ∃ (q : Nat) (xs : List Value), q + g2 = lv.len ∧ i = .int .i64 q ∧ ft = .bool true ∧ wx.ownsRow wr.heap.size 30 5 nxt (kidsTo lv q).len xs ∧ Below wr.heap.size wr wx ∧ Aside (ValsA wx B (kidsTo lv q) xs ∧ checkTo p lv q = true))
      case atStart => exact ⟨0, [], by omega, rfl, rfl, by rw [kidsTo_zero]; exact World.ownsRow_nil _ _ _ _, Below.refl _ _, vaside ⟨by rw [kidsTo_zero]; rfl, checkTo_zero _ _⟩⟩
      case round =>
        obtain ⟨q, xs, hq, rfl, rfl, hown, hb2, HA2⟩ := hrel
        obtain ⟨An, cn, rfl⟩ := shape_own hown
        have HO := Lib.hid hown
        have HX := Lib.hid HA2.1
        have HC := Lib.hid HA2.2
        have HBi := Lib.hid hb2
        have hwx := hb2.size
        have HBw := Lib.hid (HBB.out.trans (hb2.mono hwr))
        have HRx := Lib.hid (HRR.out.below hBr hb2)
        have HWx := Lib.hid (HW.out.below HBw.out)
        clear hown HA2 hb2
        cases gk with
        | zero =>
          obtain rfl : q = lv.len := by omega
          have hO2 := HO.out
          rw [kidsTo_all] at hO2
          obtain ⟨A6, c6, he6, hrow6⟩ := row_owned hO2 (by have h := HX.out; rwa [kidsTo_all] at h)
          have HR6 := Lib.hid hrow6
          have hlev := Lib.hid (size_level lv)
          have hfl := Lib.hid (fit_level p lv)
          have hck : Hid (checkL p lv = true) := Lib.hid (by rw [← checkTo_all]; exact HC.out)
          rw [kidsTo_all, he6]
          clear hO2 hrow6 he6 HO HX
          go_wp2_with fail
          go_roundg (sizeL (kidsL lv))
          case measure => have := hlev.out; omega
          case rel => exact ⟨kidsL lv, A6, c6, Nat.le_refl _, rfl, rfl, by have := hlev.out; omega, HBw.out, vaside ⟨HR6.out, by rw [← HFF.out, hfl.out, hck.out]; simp⟩⟩
        | succ g3 =>
          have hqn : q < lv.len := by omega
          have hqn' : (q : Int) < (lv.len : Int) := by omega
          obtain ⟨x, hx⟩ := VL.get_lt hqn
          have hxs := Nat.le_trans (sizeL_get hx) (Nat.le_trans hsl hg9)
          obtain ⟨b, o, d0, d1, d2, d3, d4, rfl, hblt, hF, hV⟩ := HRx.out q x hx
          have HXS := Lib.hid hxs
          have hnk := Lib.hid (kidsTo_next hx)
          have hnc := Lib.hid (checkTo_next p hx)
          have hno := Lib.hid (check_no p hx)
          have HWI := Lib.hid (within_any x hxs)
          have hxk := Lib.hid (size_kids x)
          have hV0 := Lib.hid hV
          obtain ⟨xk, xn, xs2, xl, xm⟩ := x
          have hxm : Hid (sizeM xm ≤ 1100000) := Lib.hid (by rw [sizeV] at hxs; omega)
          have hxz : xs2.size ≤ 1100000 := by rw [sizeV] at hxs; omega
          have hct := Lib.hid (fun b1 b2 => check_two (p := p) (k := xk) (n := xn) (s := xs2) (l := xl) (m := xm) (b1 := b1) (b2 := b2))
          unfold VAt at hV
          obtain ⟨rfl, rfl, rfl, _, ⟨A3, c3', rfl, _, _⟩, A4, c4', rfl, hm4, hM4⟩ := hV
          obtain ⟨f0, f1, f2, f3, f4⟩ := hF
          have hnew := Lib.hid ((Below.refl wr.heap.size wr).alloc (Nat.le_refl _) (.cells #[.int .i64 xk, .int .i64 xn, .string xs2, .slice A3 xl.len c3', .slice A4 xm.len c4'] 30))
          have HM4 := Lib.hid hM4
          have hBx := Nat.le_trans hBr hwx
          have HS := Lib.hid (sound_any xk xn xs2 xl xm _ _ _ _ _ _ B (VAt.below (hnew.out.mono hBx) _ _ _ _ _ _ hV0.out) hxz (HWx.out.below hnew.out))
          have hF5 := Lib.hid (five_at_new wr (.int .i64 xk) (.int .i64 xn) (.string xs2) (.slice A3 xl.len c3') (.slice A4 xm.len c4') 30 rfl)
          have hsw : (wr.alloc (.cells #[.int .i64 xk, .int .i64 xn, .string xs2, .slice A3 xl.len c3', .slice A4 xm.len c4'] 30)).heap.size = wr.heap.size + 1 := by simp
          have HSW := Lib.hid hsw
          clear hM4 hx hxs hsw
          cases hs : soundB xk xn xs2.data.toList xl.len xm.len with
          | false =>
            have hr : Hid (fitV p U = false) := Lib.hid (by rw [← HFF.out]; exact hno.out (by rw [checkV, hs]; rfl))
            rw [hs] at HS
            clear hs
            go_wp2_with fail
            refine HS.out.mono ?_
            rintro e w2 ⟨rfl, hb3⟩
            have HB3 := Lib.hid (HBw.out.trans ((hnew.out.trans (hb3.mono (by rw [HSW.out]; omega))).mono HBw.out.size))
            clear hb3
            go_wp2_with fail
            simp only [Exit.noGoto_ret]
            go_ret
            exact ⟨ret_bool hr.out.symm, HB3.out⟩
          | true =>
            rw [hs] at HS
            go_wp2_with fail
            refine HS.out.mono ?_
            rintro e w2 ⟨rfl, hb3⟩
            have hb4 := hnew.out.trans (hb3.mono (by rw [HSW.out]; omega))
            have HB4 := Lib.hid hb4
            have hs2 := hb4.size
            have hF2 := hF5.out.below hb3 (by rw [HSW.out]; omega)
            have HNM := Lib.hid (vnamed_any fn p HP.out xm A4 c4' w2 B (Nat.le_trans hBx hs2) hm4 (MAt.below (hb4.mono hBx) _ _ _ HM4.out) hxm.out (HWx.out.below hb4))
            have hlt2 : wr.heap.size < w2.heap.size := by have := hb3.size; rw [HSW.out] at this; omega
            have hF2' := Lib.hid hF2
            obtain ⟨e0, e1, e2, e3, e4⟩ := hF2
            clear hb3 hb4 HS
            cases hnm : namesB p xm with
            | false =>
              have hr : Hid (fitV p U = false) := Lib.hid (by rw [← HFF.out]; exact hno.out (by rw [hct.out _ _ hs hnm]; rfl))
              rw [hnm] at HNM
              clear hs hnm
              go_wp2_with fail
              refine HNM.out.mono ?_
              rintro e w3 ⟨rfl, hb5⟩
              have HB5 := Lib.hid (HBw.out.trans ((HB4.out.trans (hb5.mono hs2)).mono HBw.out.size))
              clear hb5 e0 e1 e2 e3 e4
              go_wp2_with fail
              simp only [Exit.noGoto_ret]
              go_ret
              exact ⟨ret_bool hr.out.symm, HB5.out⟩
            | true =>
              have hcx : Hid (checkV p (.mk xk xn xs2 xl xm) = true) := Lib.hid (by rw [hct.out _ _ hs hnm]; rfl)
              rw [hnm] at HNM
              clear hs hnm
              go_wp2_with fail
              refine HNM.out.mono ?_
              rintro e w3 ⟨rfl, hb5⟩
              have hb6 := HB4.out.trans (hb5.mono hs2)
              have HB6 := Lib.hid hb6
              have hs3 := hb6.size
              obtain ⟨y0, y1, y2, y3, y4⟩ := hF2'.out.below hb5 hlt2
              clear hb5 hb6 e0 e1 e2 e3 e4 HNM
              go_wp2_with fail
              refine (HWI.out _ _ _ _ _ _ B (Nat.le_trans hBx hs3) (VAt.below (HB6.out.mono hBx) _ _ _ _ _ _ hV0.out)).mono ?_
              rintro e w4 ⟨A5, c5, rfl, hrow, hb7⟩
              have HB7 := Lib.hid (HB6.out.trans (hb7.mono hs3))
              have HR5 := Lib.hid hrow
              clear hrow hb7 y0 y1 y2 y3 y4 f0 f1 f2 f3 f4
              cases A5 with
              | none =>
                have hkn := HR5.out.none
                have hk0 : Hid (kidsTo lv (q + 1) = kidsTo lv q) := Lib.hid (by rw [hnk.out, hkn, VL.app_nil])
                have hkl : (VT.mk xk xn xs2 xl xm).kids.len = 0 := by rw [hkn]; rfl
                rw [hkl]
                have HO4 := Lib.hid (own_low HO.out HB7.out)
                clear hkn hkl
                go_wp2_with (at_builtin; refine wpList_append_nil rfl _ _ 27 rfl _ 30 i0 5 Tryz.underlying27 hi _ _ c5 xs rfl HO4.out rfl ?_)
                go_roundg g3
                case measure => omega
                case rel => exact ⟨q + 1, xs, by omega, by go_num, rfl, by rw [hk0.out]; exact HO4.out, HBi.out.trans (HB7.out.mono hwx), vaside ⟨by rw [hk0.out]; exact ValsA.below (HB7.out.mono hBx) HX.out, by rw [hnc.out, HC.out, hcx.out]; rfl⟩⟩
              | some a =>
                obtain ⟨news, hval, hat⟩ := HR5.out.vals
                have hnl := hval.len
                have hn1 := hval.one
                have hkl : (VT.mk xk xn xs2 xl xm).kids.len ≤ 1100000 := by have h0 := HXS.out; have h1 := hxk.out; have h2 := len_size (VT.mk xk xn xs2 xl xm).kids; omega
                have hql : (kidsTo lv q).len ≤ 1100000 := by have h3 := Nat.le_trans hsl hg9; have h1 := kidsTo_size lv q; have h2 := len_size (kidsTo lv q); omega
                have HO4 := Lib.hid (own_low HO.out HB7.out)
                have HVN := Lib.hid hval
                have hB4 := Nat.le_trans hBx HB7.out.size
                have hwo := Nat.le_trans hwx HB7.out.size
                clear hval
                go_wp2_with (at_builtin; refine wpList_append_own _ rfl _ _ 27 rfl _ 30 i0 (.agg #[.int .i64 0, .int .i64 0, .string ⟨#[]⟩, .slice none 0 0, .slice none 0 0]) 5 80 Tryz.underlying27 hi hz0 hz1 hz2 rfl (by decide) _ _ xs rfl HO4.out a _ c5 news rfl hnl hat hn1 (by unfold maxLen; omega) (by omega) hwo ?_; intro v5 w5 hown5 hgr5 _; obtain ⟨A8, c8, rfl⟩ := shape_own hown5; have HO5 := Lib.hid hown5; have HG5 := Lib.hid hgr5; clear hown5 hgr5)
                have hbl := Lib.hid (level_next hBr HBi.out HB7.out HO.out HG5.out)
                go_roundg g3
                case measure => omega
                case rel => exact ⟨q + 1, xs ++ news, by omega, by go_num, rfl, by rw [hnk.out, VL.len_app]; exact HO5.out, hbl.out.1, vaside ⟨by rw [hnk.out]; exact (ValsA.below hbl.out.2.1 HX.out).app (ValsA.below hbl.out.2.2 HVN.out), by rw [hnc.out, HC.out, hcx.out]; rfl⟩⟩
end Go.Proofs.YtcfdfgbobnocnaaGreatDoor
namespace Go.Proofs.YtcfdfgbobnocnaaGreatDoor
open Go.RowKit

theorem test_good : TestC 49 goodB :=
  ⟨Go.Proofs.enters_of Tryz.func49 (by kernel_rfl) rfl, fun s w hs hw => good_any s w hs hw.1⟩
theorem test_name : TestC 36 nameB :=
  ⟨Go.Proofs.enters_of Tryz.func36 (by kernel_rfl) rfl, fun s w hs _ => (name_any s w (by omega)).mono (by rintro e w' ⟨he, rfl⟩; exact ⟨he, Below.refl _ _⟩)⟩
def plainB (v : VT) : Bool := fitV nameB v && decide (depV v ≤ 16)
set_option maxRecDepth 100000 in
theorem vgood_any (v : VT) (hz : sizeV v ≤ 1100000) (c0 c1 c2 c3 c4 : Value) (w : World) (B : Nat) (hB : B ≤ w.heap.size) (hv : VAt w B v c0 c1 c2 c3 c4) (hw : Laid5 w) :
    Calls Tryz.prog 32 #[.agg #[c0, c1, c2, c3, c4]] w fun e w' => e = .returned (.bool (fitV goodB v)) ∧ Below w.heap.size w w' := by
  obtain ⟨k, n, s, l, m⟩ := v
  generalize hU : VT.mk k n s l m = U at *
  have HV := Lib.hid hv
  rw [← hU] at hv
  unfold VAt at hv
  obtain ⟨rfl, rfl, rfl, _, ⟨A, c, rfl, hl, hL⟩, A', c', rfl, hm, hM⟩ := hv
  have hb1 := Lib.hid ((Below.refl w.heap.size w).alloc (Nat.le_refl _) (.cells #[.int .i64 k, .int .i64 n, .string s, .slice A l.len c, .slice A' m.len c'] 30))
  have HF := Lib.hid (vfits_any _ _ test_good U hz _ _ _ _ _ _ B (Nat.le_trans hB hb1.out.size) (VAt.below (hb1.out.mono hB) _ _ _ _ _ _ HV.out) (hw.below hb1.out))
  clear hL hM hU hw hz
  go_enter Tryz.func32, Tryz.ntmps32
  go_wp2_with fail
  refine HF.out.mono ?_
  rintro e w2 ⟨rfl, hb2⟩
  have HB2 := Lib.hid (hb1.out.trans (hb2.mono hb1.out.size))
  clear hb2
  go_wp2_with fail
  go_ret
  exact ⟨rfl, HB2.out⟩
end Go.Proofs.YtcfdfgbobnocnaaGreatDoor
namespace Go.Proofs.YtcfdfgbobnocnaaGreatDoor
open Go.RowKit

def aloneB (v : VT) : Bool := (v.kd != 6) && ((v.kd != 8) && (v.kd != 0))
set_option maxRecDepth 100000 in
set_option maxHeartbeats 4000000 in
theorem alone_any (v : VT) (c1 c2 c3 c4 : Value) (w : World) :
    Calls Tryz.prog 69 #[.agg #[.int .i64 v.kd, c1, c2, c3, c4]] w fun e w' => e = .returned (.bool (aloneB v)) ∧ Below w.heap.size w w' := by
  have B0 := Lib.hid (dbelow_new w (.cells #[.int .i64 v.kd, c1, c2, c3, c4] 30))
  have X0 := heap_alloc_new w (.cells #[.int .i64 v.kd, c1, c2, c3, c4] 30)
  obtain ⟨y0, y1, y2, y3, y4⟩ := five_at X0
  have HE : Hid (aloneB v = ((v.kd != 6) && ((v.kd != 8) && (v.kd != 0)))) := Lib.hid rfl
  clear X0
  obtain ⟨b6, h6⟩ : ∃ b, (v.kd != 6) = b := ⟨_, rfl⟩
  obtain ⟨b8, h8⟩ : ∃ b, (v.kd != 8) = b := ⟨_, rfl⟩
  obtain ⟨b0, h0⟩ : ∃ b, (v.kd != 0) = b := ⟨_, rfl⟩
  rw [h6, h8, h0] at HE
  cases b6
  case false =>
    go_enter Tryz.func69, Tryz.ntmps69
    go_wp2_with fail
    go_ret
    exact ⟨by rw [HE.out]; rfl, B0.out⟩
  case true =>
    cases b8
    case false =>
      go_enter Tryz.func69, Tryz.ntmps69
      go_wp2_with fail
      go_ret
      exact ⟨by rw [HE.out]; rfl, B0.out⟩
    case true =>
      go_enter Tryz.func69, Tryz.ntmps69
      go_wp2_with fail
      go_ret
      exact ⟨by rw [HE.out]; rfl, B0.out⟩
set_option maxRecDepth 100000 in
set_option maxHeartbeats 8000000 in
theorem aidx_any (vs : List VT) (A : Option Addr) (c : Nat) (w : World) (B : Nat) (hB : B ≤ w.heap.size) (hl : vs.length ≤ 9223372036854775807) (hR : RowT w (fun b => b < B) (rowOf encV vs) A) :
    Calls Tryz.prog 81 #[.slice A vs.length c, .func (.func 69) #[] #[]] w fun e w' => ∃ z : Int, e = .returned (.int .i64 z) ∧ decide (0 ≤ z) = vs.any aloneB ∧ Below w.heap.size w w' := by
  have HR := Lib.hid hR
  have HB := Lib.hid hB
  clear hR hB
  go_enter Tryz.func81, Tryz.ntmps81
  go_wp2_with fail
  go_loopg [5, 8] vs.length (fun gk _ i wx => ∃ q : Nat, q + gk = vs.length ∧ i = .int .i64 q ∧ Aside ((vs.drop q).any aloneB = vs.any aloneB ∧ Below w.heap.size w wx))
  case atStart => exact ⟨0, by omega, rfl, Blk.Aside.intro ⟨rfl, Below.refl _ _⟩⟩
  case round =>
    obtain ⟨q, hq, rfl, HX⟩ := hrel
    obtain ⟨hf, hb⟩ := HX.out
    have HF := Lib.hid hf
    have HBB := Lib.hid hb
    clear HX hf hb
    cases gk with
    | zero =>
      obtain rfl : q = vs.length := by omega
      go_wp2_with fail
      go_ret
      exact ⟨-1, rfl, by rw [← HF.out, List.drop_length]; rfl, HBB.out⟩
    | succ gg =>
      have hqn : q < vs.length := by omega
      have hqn' : (q : Int) < (vs.length : Int) := by omega
      obtain ⟨x, hx⟩ : ∃ x, vs[q]? = some x := ⟨_, List.getElem?_eq_getElem hqn⟩
      obtain ⟨b, p, A3, k3, A4, k4, rfl, hb, ⟨g0, g1, g2, g3, g4⟩, _⟩ := val_at (RowT.below (HBB.out.mono HB.out) HR.out) hx
      have hbl : b < wr.heap.size := Nat.lt_of_lt_of_le hb (Nat.le_trans HB.out HBB.out.size)
      have hK : Hid ((vs.drop q).any aloneB = (aloneB x || (vs.drop (q + 1)).any aloneB)) := Lib.hid (by
        have e : vs[q] = x := (List.getElem?_eq_some_iff.1 hx).2
        rw [List.drop_eq_getElem_cons hqn, e, List.any_cons])
      have AL := Lib.hid (alone_any x (.int .i64 x.nn) (.string x.ss) (.slice A3 x.ls.len k3) (.slice A4 x.ms.len k4) wr)
      generalize aloneB x = ab at hK AL
      clear hx hb
      go_wp2_with fail
      refine AL.out.mono ?_
      rintro e w2 ⟨rfl, hb2⟩
      have D2 := Lib.hid (HBB.out.trans (hb2.mono HBB.out.size))
      clear hb2 g0 g1 g2 g3 g4 AL
      cases ab with
      | true =>
        go_wp2_with fail
        go_ret
        exact ⟨(q : Int), rfl, by rw [← HF.out, hK.out]; simp, D2.out⟩
      | false =>
        go_wp2_with fail
        go_roundg gg
        case measure => omega
        case rel => exact ⟨q + 1, by omega, by go_num, Blk.Aside.intro ⟨by rw [← HF.out, hK.out]; rfl, D2.out⟩⟩
set_option maxRecDepth 100000 in
set_option maxHeartbeats 4000000 in
theorem acont_any (vs : List VT) (A : Option Addr) (c : Nat) (w : World) (B : Nat) (hB : B ≤ w.heap.size) (hl : vs.length ≤ 9223372036854775807) (hR : RowT w (fun b => b < B) (rowOf encV vs) A) :
    Calls Tryz.prog 68 #[.slice A vs.length c, .func (.func 69) #[] #[]] w fun e w' => e = .returned (.bool (vs.any aloneB)) ∧ Below w.heap.size w w' := by
  have I := Lib.hid (aidx_any vs A c w B hB hl hR)
  clear hB hl hR
  go_enter Tryz.func68, Tryz.ntmps68
  go_wp2_with fail
  refine I.out.mono ?_
  rintro e w2 ⟨z, rfl, hz, hb2⟩
  have D2 := Lib.hid hb2
  have HZ := Lib.hid hz
  clear hb2 hz I
  go_wp2_with fail
  go_ret
  exact ⟨by rw [← HZ.out]; rfl, D2.out⟩
def mayB (n : ByteArray) (l m : Int) (vs : List VT) : Bool := !itemB n l m || !vs.any aloneB
set_option maxRecDepth 100000 in
set_option maxHeartbeats 4000000 in
theorem maybe_any (n : ByteArray) (l m : Int) (vs : List VT) (A : Option Addr) (c : Nat) (w : World) (B : Nat) (hn : n.size ≤ 9223372036854775807) (hB : B ≤ w.heap.size) (hl : vs.length ≤ 9223372036854775807) (hR : RowT w (fun b => b < B) (rowOf encV vs) A) :
    Calls Tryz.prog 51 #[.agg #[.string n, .int .i64 l, .int .i64 m], .slice A vs.length c] w fun e w' => e = .returned (.bool (mayB n l m vs)) ∧ Below w.heap.size w w' := by
  have C := Lib.hid (fun (wx : World) (hb : Below w.heap.size w wx) => acont_any vs A c wx B (Nat.le_trans hB hb.size) hl (RowT.below (hb.mono hB) hR))
  have IT := Lib.hid (fun (wx : World) => item_any n l m wx hn)
  rw [itemV_eq] at IT
  have HE : Hid (mayB n l m vs = (!itemB n l m || !vs.any aloneB)) := Lib.hid rfl
  have B0 := Lib.hid (dbelow_new w (.cells #[.string n, .int .i64 l, .int .i64 m] 26))
  have X0 := heap_alloc_new w (.cells #[.string n, .int .i64 l, .int .i64 m] 26)
  obtain ⟨x0, x1, x2⟩ := three_cells X0
  clear X0 hB hl hR hn
  generalize itemB n l m = ib at IT HE
  generalize vs.any aloneB = ab at C HE
  cases ib with
  | false =>
    rw [if_neg (by simp)] at IT
    unfold noT at IT
    go_enter Tryz.func51, Tryz.ntmps51
    go_wp2_with fail
    refine (IT.out _).mono ?_
    rintro e w2 ⟨rfl, hb2⟩
    have D2 := Lib.hid ((B0.out.trans (hb2.mono B0.out.size)).alloc (Nat.le_trans B0.out.size hb2.size) (.cells #[.string ⟨#[]⟩, .int .i64 0, .int .i64 0] 26))
    clear hb2 x0 x1 x2
    go_upto_region 2 with fail
    generalize w2.alloc (.cells #[.string ⟨#[]⟩, .int .i64 0, .int .i64 0] 26) = w3 at D2 ⊢
    go_wp2_with fail
    go_ret
    exact ⟨by rw [HE.out]; rfl, D2.out⟩
  | true =>
    rw [if_pos rfl] at IT
    unfold yesT at IT
    go_enter Tryz.func51, Tryz.ntmps51
    go_wp2_with fail
    refine (IT.out _).mono ?_
    rintro e w2 ⟨rfl, hb2⟩
    have D2 := Lib.hid ((B0.out.trans (hb2.mono B0.out.size)).alloc (Nat.le_trans B0.out.size hb2.size) (.cells #[.string n, .int .i64 (l - 1), .int .i64 (m / 2)] 26))
    clear hb2 x0 x1 x2
    go_upto_region 2 with fail
    generalize w2.alloc (.cells #[.string n, .int .i64 (l - 1), .int .i64 (m / 2)] 26) = w3 at D2 ⊢
    go_wp2_with fail
    refine (C.out _ D2.out).mono ?_
    rintro e w4 ⟨rfl, hb4⟩
    have D4 := Lib.hid (D2.out.trans (hb4.mono D2.out.size))
    clear hb4
    go_wp2_with fail
    go_ret
    exact ⟨by rw [HE.out]; rfl, D4.out⟩
end Go.Proofs.YtcfdfgbobnocnaaGreatDoor
namespace Go.Proofs.YtcfdfgbobnocnaaGreatDoor
open Go.RowKit

def fitsB (D : List DefnT) (n : ByteArray) (l m : Int) (v : VT) : Bool :=
  if rightT n.data.toList l m = true then (
    if (v.kd == 8) = true then true else
    if (v.kd == 0) = true then !isB n.data.toList l m else
    if itemB n l m = true then (if (v.kd == 6) = true then mayB n (l - 1) (m / 2) v.ls.list else true) else namedB D n v) else false
set_option maxRecDepth 100000 in
set_option maxHeartbeats 8000000 in
theorem fits_any (S : SchT) (n : ByteArray) (l m : Int) (hs : Bool) (v : VT) (c0 c1 c2 : Value) (A3 A4 : Option Addr) (k3 k4 : Nat) (w : World) (B M : Nat) (X : Nat → Prop) (KS : List ByteArray) (hB : B ≤ M) (hX : ∀ b, X b → b < w.heap.size) (hXM : X M) (hXB : ∀ b, b < B → ¬ X b) (hK : n ∈ KS) (hKS : KS.length ≤ maxLen) (hn : n.size ≤ maxLen) (hz : SlimS S) (hvz : v.ms.len * 120 ≤ 140737488355328) (_hvl : v.ls.len * 80 ≤ 140737488355328)
    (hS : TS w (fun b => b < B) (encSch S) [c0, c1, c2]) (hV : TS w (fun b => b < B) (encV v) [.int .i64 v.kd, .int .i64 v.nn, .string v.ss, .slice A3 v.ls.len k3, .slice A4 v.ms.len k4]) (hO : MOK S.defs X KS M w) :
    Calls Tryz.prog 33 #[.agg #[c0, c1, c2, .map (some M)], .agg #[.string n, .int .i64 l, .int .i64 m, .bool hs, .int .i64 v.kd, .int .i64 v.nn, .string v.ss, .slice A3 v.ls.len k3, .slice A4 v.ms.len k4]] w (BoolC (fitsB S.defs n l m v) S.defs X KS M w) := by
  have hMl := hO.lt
  have hBw : B ≤ w.heap.size := by omega
  have hn' : n.size ≤ 9223372036854775807 := by unfold maxLen at hn; omega
  have NA := Lib.hid (fun (wx : World) (hb : Below w.heap.size w wx) => named_any S n v c0 c1 c2 A3 A4 k3 k4 wx B M X KS hB (fun b h => Nat.lt_of_lt_of_le (hX b h) hb.size) hXM hXB hK hKS hn hz hvz (TS.low (hb.mono hBw) hS) (TS.low (hb.mono hBw) hV) (hO.low hb))
  have IT := Lib.hid (fun (wx : World) => item_any n l m wx hn')
  have RT := Lib.hid (fun (wx : World) => wright_any n l m wx hn')
  have IS := Lib.hid (fun (wx : World) => wis_any n l m wx hn')
  rw [itemV_eq] at IT
  obtain ⟨A, k, e, _⟩ := sch_cells hS
  injection e with e0 e
  injection e with e1 e
  injection e with e2 e
  subst e0 e1 e2
  obtain ⟨E3, j3, E4, j4, e, hss, ⟨hll, hL⟩, hml, hM⟩ := encv_cells hV
  simp only [List.cons.injEq, Value.slice.injEq, and_true, true_and] at e
  obtain ⟨⟨rfl, rfl⟩, rfl, rfl⟩ := e
  have MB := Lib.hid (fun (wx : World) (hb : Below w.heap.size w wx) => maybe_any n (l - 1) (m / 2) v.ls.list A3 k3 wx B hn' (Nat.le_trans hBw hb.size) (by rw [VL.list_len]; exact hll) (by rw [← encL_list]; exact RowT.below (hb.mono hBw) hL))
  rw [VL.list_len] at MB
  have HO := Lib.hid hO
  have N0 := Lib.hid (NB.start w (.cells #[.slice A S.defs.length k, .string S.query, .string S.mutation, .map (some M)] 57) (.cells #[.string n, .int .i64 l, .int .i64 m, .bool hs, .int .i64 v.kd, .int .i64 v.nn, .string v.ss, .slice A3 v.ls.len k3, .slice A4 v.ms.len k4] 61))
  obtain ⟨r, hr⟩ : ∃ r, fitsB S.defs n l m v = r := ⟨_, rfl⟩
  rw [hr]
  have he := hr.symm
  unfold fitsB at he
  have HE := Lib.hid he
  clear he hr hS hz hV hO hL hll hml hM hX hXM hXB hK hKS hn hn' hvz
  obtain ⟨bi, gi⟩ : ∃ b, itemB n l m = b := ⟨_, rfl⟩
  obtain ⟨br, gr⟩ : ∃ b, rightT n.data.toList l m = b := ⟨_, rfl⟩
  obtain ⟨b8, g8⟩ : ∃ b, (v.kd == 8) = b := ⟨_, rfl⟩
  obtain ⟨b0, g0⟩ : ∃ b, (v.kd == 0) = b := ⟨_, rfl⟩
  obtain ⟨b6, g6⟩ : ∃ b, (v.kd == 6) = b := ⟨_, rfl⟩
  have hbr : Hid (bi = true → br = true) := Lib.hid (fun h => by
    unfold itemB at gi
    rw [gr, h, Bool.and_eq_true] at gi
    exact gi.1)
  rw [gi] at IT
  rw [gr] at RT
  rw [gr, g8, g0, gi, g6] at HE
  generalize isB n.data.toList l m = ib at IS HE
  generalize namedB S.defs n v = nb at NA HE
  generalize mayB n (l - 1) (m / 2) v.ls.list = mb at MB HE
  clear gi gr
  cases bi
  case false =>
    rw [if_neg (by simp)] at IT
    unfold noT at IT
    go_enter Tryz.func33, Tryz.ntmps33
    go_upto_region 1 with fail
    generalize (w.alloc (.cells #[.slice A S.defs.length k, .string S.query, .string S.mutation, .map (some M)] 57)).alloc (.cells #[.string n, .int .i64 l, .int .i64 m, .bool hs, .int .i64 v.kd, .int .i64 v.nn, .string v.ss, .slice A3 v.ls.len k3, .slice A4 v.ms.len k4] 61) = w1 at N0 ⊢
    obtain ⟨⟨y0, y1, y2, y3, y4, y5, y6, y7, y8⟩, _⟩ := nine_cells N0.out.b1
    go_wp2_with fail
    refine (IT.out _).mono ?_
    rintro e w2 ⟨rfl, hb2⟩
    have N2 := Lib.hid (N0.out.next hb2)
    clear hb2 y0 y1 y2 y3 y4 y5 y6 y7 y8 N0
    go_upto_region 2 with fail
    have N3 := Lib.hid (N2.out.next (dbelow_new w2 (.cells #[.string ⟨#[]⟩, .int .i64 0, .int .i64 0] 26)))
    have I3 := heap_alloc_new w2 (.cells #[.string ⟨#[]⟩, .int .i64 0, .int .i64 0] 26)
    generalize w2.alloc (.cells #[.string ⟨#[]⟩, .int .i64 0, .int .i64 0] 26) = w3 at N3 I3 ⊢
    generalize w2.heap.size = g2 at I3 ⊢
    clear N2
    obtain ⟨⟨y0, y1, y2, y3, y4, y5, y6, y7, y8⟩, _⟩ := nine_cells N3.out.b1
    go_wp2_with fail
    refine (RT.out _).mono ?_
    rintro e w4 ⟨rfl, hb4⟩
    have N4 := Lib.hid (N3.out.next hb4)
    have I4 := (hb4.block g2 (Array.getElem?_eq_some_iff.1 I3).1).trans I3
    clear hb4 y0 y1 y2 y3 y4 y5 y6 y7 y8 N3 I3
    obtain ⟨⟨y0, y1, y2, y3, y4, y5, y6, y7, y8⟩, _⟩ := nine_cells N4.out.b1
    obtain ⟨x0, x1, x2, x3⟩ := four_cells N4.out.b0
    obtain ⟨i0, i1, i2⟩ := three_cells I4
    cases br
    case false =>
      rw [if_neg (by simp)] at HE
      go_wp2_with fail
      go_ret
      exact ⟨by rw [HE.out]; rfl, MoX.of_below N4.out.low, HO.out.low N4.out.low⟩
    rw [if_pos (by simp)] at HE
    cases b8
    case true =>
      rw [if_pos (by simp)] at HE
      go_wp2_with fail
      go_ret
      exact ⟨by rw [HE.out]; rfl, MoX.of_below N4.out.low, HO.out.low N4.out.low⟩
    rw [if_neg (by simp)] at HE
    cases b0
    case true =>
      rw [if_pos (by simp)] at HE
      go_wp2_with fail
      refine (IS.out _).mono ?_
      rintro e w5 ⟨rfl, hb5⟩
      have N5 := Lib.hid (N4.out.next hb5)
      clear hb5
      go_wp2_with fail
      go_ret
      exact ⟨by rw [HE.out]; rfl, MoX.of_below N5.out.low, HO.out.low N5.out.low⟩
    rw [if_neg (by simp)] at HE
    rw [if_neg (by simp)] at HE
    go_wp2_with fail
    refine (NA.out _ N4.out.low).mono ?_
    rintro e w5 ⟨rfl, hm5, ho5⟩
    have M5 := Lib.hid ((MoX.of_below N4.out.low).trans hm5)
    have O5 := Lib.hid ho5
    clear hm5 ho5
    go_wp2_with fail
    go_ret
    exact ⟨by rw [HE.out]; rfl, M5.out, O5.out⟩
  case true =>
    rw [if_pos (by simp)] at IT
    unfold yesT at IT
    go_enter Tryz.func33, Tryz.ntmps33
    go_upto_region 1 with fail
    generalize (w.alloc (.cells #[.slice A S.defs.length k, .string S.query, .string S.mutation, .map (some M)] 57)).alloc (.cells #[.string n, .int .i64 l, .int .i64 m, .bool hs, .int .i64 v.kd, .int .i64 v.nn, .string v.ss, .slice A3 v.ls.len k3, .slice A4 v.ms.len k4] 61) = w1 at N0 ⊢
    obtain ⟨⟨y0, y1, y2, y3, y4, y5, y6, y7, y8⟩, _⟩ := nine_cells N0.out.b1
    go_wp2_with fail
    refine (IT.out _).mono ?_
    rintro e w2 ⟨rfl, hb2⟩
    have N2 := Lib.hid (N0.out.next hb2)
    clear hb2 y0 y1 y2 y3 y4 y5 y6 y7 y8 N0
    go_upto_region 2 with fail
    have N3 := Lib.hid (N2.out.next (dbelow_new w2 (.cells #[.string n, .int .i64 (l - 1), .int .i64 (m / 2)] 26)))
    have I3 := heap_alloc_new w2 (.cells #[.string n, .int .i64 (l - 1), .int .i64 (m / 2)] 26)
    generalize w2.alloc (.cells #[.string n, .int .i64 (l - 1), .int .i64 (m / 2)] 26) = w3 at N3 I3 ⊢
    generalize w2.heap.size = g2 at I3 ⊢
    clear N2
    obtain ⟨⟨y0, y1, y2, y3, y4, y5, y6, y7, y8⟩, _⟩ := nine_cells N3.out.b1
    go_wp2_with fail
    refine (RT.out _).mono ?_
    rintro e w4 ⟨rfl, hb4⟩
    have N4 := Lib.hid (N3.out.next hb4)
    have I4 := (hb4.block g2 (Array.getElem?_eq_some_iff.1 I3).1).trans I3
    clear hb4 y0 y1 y2 y3 y4 y5 y6 y7 y8 N3 I3
    obtain ⟨⟨y0, y1, y2, y3, y4, y5, y6, y7, y8⟩, _⟩ := nine_cells N4.out.b1
    obtain ⟨x0, x1, x2, x3⟩ := four_cells N4.out.b0
    obtain ⟨i0, i1, i2⟩ := three_cells I4
    obtain rfl : br = true := hbr.out (by simp)
    rw [if_pos (by simp)] at HE
    cases b8
    case true =>
      rw [if_pos (by simp)] at HE
      go_wp2_with fail
      go_ret
      exact ⟨by rw [HE.out]; rfl, MoX.of_below N4.out.low, HO.out.low N4.out.low⟩
    rw [if_neg (by simp)] at HE
    cases b0
    case true =>
      rw [if_pos (by simp)] at HE
      go_wp2_with fail
      refine (IS.out _).mono ?_
      rintro e w5 ⟨rfl, hb5⟩
      have N5 := Lib.hid (N4.out.next hb5)
      clear hb5
      go_wp2_with fail
      go_ret
      exact ⟨by rw [HE.out]; rfl, MoX.of_below N5.out.low, HO.out.low N5.out.low⟩
    rw [if_neg (by simp)] at HE
    rw [if_pos (by simp)] at HE
    cases b6
    case false =>
      rw [if_neg (by simp)] at HE
      go_wp2_with fail
      go_ret
      exact ⟨by rw [HE.out]; rfl, MoX.of_below N4.out.low, HO.out.low N4.out.low⟩
    rw [if_pos (by simp)] at HE
    go_wp2_with fail
    refine (MB.out _ N4.out.low).mono ?_
    rintro e w5 ⟨rfl, hb5⟩
    have N5 := Lib.hid (N4.out.next hb5)
    clear hb5
    go_wp2_with fail
    go_ret
    exact ⟨by rw [HE.out]; rfl, MoX.of_below N5.out.low, HO.out.low N5.out.low⟩
end Go.Proofs.YtcfdfgbobnocnaaGreatDoor
