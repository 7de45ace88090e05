/- literal's complete; wrap.Is of any name. (gen_memb.py wrote it.) -/
import Derived.Test.YtcfdfgbobnocnaaGreatDoorVGet
import Derived.Test.YtcfdfgbobnocnaaGreatDoorLtOnce
namespace Go.Proofs.YtcfdfgbobnocnaaGreatDoor
open Go.RowKit

theorem five_set {w : World} {b : Nat} {z0 z1 z2 z3 z4 v0 v1 v2 v3 v4 : Value} {t : TypeId} (h : w.heap[b]? = some (.cells #[z0, z1, z2, z3, z4] t (0, 0))) : (((((w.setCell ⟨b, 0, none⟩ v0).setCell ⟨b, 1, none⟩ v1).setCell ⟨b, 2, none⟩ v2).setCell ⟨b, 3, none⟩ v3).setCell ⟨b, 4, none⟩ v4).heap[b]? = some (.cells #[v0, v1, v2, v3, v4] t (0, 0)) :=
  heap_setCell_same _ b 4 _ _ _ (heap_setCell_same _ b 3 _ _ _ (heap_setCell_same _ b 2 _ _ _ (heap_setCell_same _ b 1 _ _ _ (heap_setCell_same _ b 0 _ _ _ h))))
theorem gfive_cells {w : World} {b : Nat} {z0 z1 z2 z3 z4 : Value} {t : TypeId} (h : w.heap[b]? = some (.cells #[z0, z1, z2, z3, z4] t (0, 0))) : w.cell? ⟨b, 0, none⟩ = some z0 ∧ w.cell? ⟨b, 1, none⟩ = some z1 ∧ w.cell? ⟨b, 2, none⟩ = some z2 ∧ w.cell? ⟨b, 3, none⟩ = some z3 ∧ w.cell? ⟨b, 4, none⟩ = some z4 ∧ ∀ i, w.frozen? ⟨b, i, none⟩ = false := by
  refine ⟨?_, ?_, ?_, ?_, ?_, fun i => ?_⟩
  all_goals first | (simp only [World.cell?, h]; rfl) | simp [World.frozen?, h]
def ResAt (w wx : World) : Prop := wx.heap[w.heap.size]? = some (.cells #[.int .i64 0, .int .i64 0, .string ⟨#[]⟩, .slice none 0 0, .slice none 0 0] 30 (0, 0)) ∧ w.heap.size < wx.heap.size ∧ Below w.heap.size w wx
theorem ResAt.alloc {w wx : World} (h : ResAt w wx) (o : Obj) : ResAt w (wx.alloc o) :=
  ⟨(Below.heap_alloc _ _ _ h.2.1).trans h.1, by have := h.2.1; simp; omega, h.2.2.alloc (Nat.le_of_lt h.2.1) o⟩
set_option maxRecDepth 100000 in
set_option maxHeartbeats 4000000 in
theorem pget_any (s : ByteArray) (m : VM) (A : Option Addr) (c : Nat) (w : World) (B : Nat) (hB : B ≤ w.heap.size) (hm : m.len ≤ 9223372036854775807) (hM : MAt w B m A 0) :
    Calls Tryz.prog 83 #[.string s, .slice A m.len c] w fun e w' => ∃ d0 d1 d2 d3 d4, e = .returned (.tuple #[.agg #[d0, d1, d2, d3, d4], .bool (getM m s).2]) ∧ VAt w' B (getM m s).1 d0 d1 d2 d3 d4 ∧ Below w.heap.size w w' := by
  have HM := Lib.hid hM
  have HB0 := Lib.hid hB
  clear hM hB
  have h0 := Lib.hid (show ResAt w (w.alloc (.cells #[.int .i64 0, .int .i64 0, .string ⟨#[]⟩, .slice none 0 0, .slice none 0 0] 30)) from ⟨heap_alloc_new _ _, by simp, (Below.refl _ _).alloc (Nat.le_refl _) _⟩)
  go_enter Tryz.func83, Tryz.ntmps83
  go_wp2_with fail
  go_loopg [10] m.len (fun g i wx => ∃ q : Nat, q + g = m.len ∧ i = .int .i64 q ∧ Aside (getM (m.drop q) s = getM m s ∧ ResAt w wx))
  case atStart => exact ⟨0, by omega, rfl, vaside ⟨by rw [VM.drop_zero], h0.out⟩⟩
  case round =>
    obtain ⟨q, hq, rfl, HA⟩ := hrel
    have HD := Lib.hid HA.1
    have HR := Lib.hid HA.2
    clear HA h0
    cases gk with
    | zero =>
      obtain rfl : q = m.len := by omega
      have hG : Hid (getM m s = (.zero, false)) := Lib.hid (by rw [← HD.out, VM.drop_all]; rfl)
      obtain ⟨y0, y1, y2, y3, y4, yf⟩ := gfive_cells HR.out.1
      have yf0 := yf 0
      have yf1 := yf 1
      have yf2 := yf 2
      have yf3 := yf 3
      have yf4 := yf 4
      clear yf
      go_wp2_with fail
      refine ret_v2 rfl rfl rfl (five_set HR.out.1) ?_
      rw [hG.out]
      exact got rfl (zeroAt _ _) (((((HR.out.2.2.setCell (p := ⟨_, _, none⟩) (Nat.le_refl _) _).setCell (p := ⟨_, _, none⟩) (Nat.le_refl _) _).setCell (p := ⟨_, _, none⟩) (Nat.le_refl _) _).setCell (p := ⟨_, _, none⟩) (Nat.le_refl _) _).setCell (p := ⟨_, _, none⟩) (Nat.le_refl _) _)
    | succ g =>
      have hqn : q < m.len := by omega
      have hqn' : (q : Int) < (m.len : Int) := by omega
      obtain ⟨⟨nm, v⟩, hv⟩ := VM.get_lt hqn
      obtain ⟨b, o, d0, d1, d2, d3, d4, rfl, hblt, hnm, hns, hF, hV⟩ := MAt.at (MAt.below (HR.out.2.2.mono HB0.out) _ _ _ HM.out) hv
      rw [Nat.zero_add] at hF hnm
      obtain ⟨g0, g1, g2, g3, g4⟩ := hF
      have hd := Lib.hid (VM.drop_get hv)
      have HV := Lib.hid hV
      obtain ⟨vk, vn, vs, vl, vm⟩ := v
      unfold VAt at hV
      obtain ⟨rfl, rfl, rfl, _, ⟨A3, c3', rfl, _, _⟩, A4, c4', rfl, _, _⟩ := hV
      have HR1 := Lib.hid (HR.out.alloc (.cells #[.string nm, .int .i64 vk, .int .i64 vn, .string vs, .slice A3 vl.len c3', .slice A4 vm.len c4'] 73))
      have HVr := Lib.hid (VAt.below ((Below.refl B wr).alloc (Nat.le_trans HB0.out (Nat.le_of_lt HR.out.2.1)) (.cells #[.string nm, .int .i64 vk, .int .i64 vn, .string vs, .slice A3 vl.len c3', .slice A4 vm.len c4'] 73)) _ _ _ _ _ _ HV.out)
      have hlt := HR.out.2.1
      clear hv
      by_cases hnn : nm = s
      · subst hnn
        have e1' : (nm.toList == nm.toList) = true := by simp
        have hG : Hid (getM m nm = (.mk vk vn vs vl vm, true)) := Lib.hid (by rw [← HD.out, hd.out, getM, if_pos rfl])
        obtain ⟨y0, y1, y2, y3, y4, yf⟩ := gfive_cells HR1.out.1
        obtain ⟨x0, x1, x2, x3, x4, xf⟩ := gfive_cells HR.out.1
        have yf0 := yf 0
        have yf1 := yf 1
        have yf2 := yf 2
        have yf3 := yf 3
        have yf4 := yf 4
        have xf0 := xf 0
        have xf1 := xf 1
        have xf2 := xf 2
        have xf3 := xf 3
        have xf4 := xf 4
        clear yf xf
        have hB5 := fun (B' : Nat) (w' : World) (h : Below B' w' wr) (hB' : B' ≤ w.heap.size) => (((((h.setCell (p := ⟨w.heap.size, 0, none⟩) hB' (.int .i64 vk)).setCell (p := ⟨w.heap.size, 1, none⟩) hB' (.int .i64 vn)).setCell (p := ⟨w.heap.size, 2, none⟩) hB' (.string vs)).setCell (p := ⟨w.heap.size, 3, none⟩) hB' (.slice A3 vl.len c3')).setCell (p := ⟨w.heap.size, 4, none⟩) hB' (.slice A4 vm.len c4'))
        have H5 := Lib.hid (fun (B' : Nat) (w' : World) (h : Below B' w' wr) (hB' : B' ≤ w.heap.size) => (hB5 B' w' h hB').alloc (Nat.le_trans hB' (hB5 w.heap.size w HR.out.2.2 (Nat.le_refl _)).size) (.cells #[.string nm, .int .i64 vk, .int .i64 vn, .string vs, .slice A3 vl.len c3', .slice A4 vm.len c4'] 73))
        clear hB5
        go_wp2_with fail
        refine ret_v2 rfl rfl rfl ((Below.heap_alloc _ _ _ (by simp only [World.setCell, Array.size_modify]; exact HR.out.2.1)).trans (five_set HR.out.1)) ?_
        rw [hG.out]
        exact got rfl (VAt.below (H5.out B wr (Below.refl _ _) HB0.out) _ _ _ _ _ _ HV.out) (H5.out _ _ HR.out.2.2 (Nat.le_refl _))
      · have hne : nm.toList ≠ s.toList := fun h => hnn (by
          rw [ByteArray.toList_eq, ByteArray.toList_eq] at h
          exact ByteArray.ext (Array.toList_inj.1 h))
        have e1' : (nm.toList == s.toList) = false := by simpa using hne
        have hN : Hid (getM (m.drop (q + 1)) s = getM m s) := Lib.hid (by rw [← HD.out, hd.out, getM, if_neg hnn])
        clear hne hnn
        go_wp2_with fail
        go_roundg g
        case measure => omega
        case rel => exact ⟨q + 1, by omega, by go_num, vaside ⟨hN.out, HR1.out⟩⟩
end Go.Proofs.YtcfdfgbobnocnaaGreatDoor
namespace Go.Proofs.YtcfdfgbobnocnaaGreatDoor
open Go.RowKit

theorem and_one_all : ∀ a : Fin 32, bits .and .i64 ((a.val : Nat) : Int) 1 = ((a.val % 2 : Nat) : Int) := by decide +kernel
theorem and_one {m : Int} (h0 : 0 ≤ m) (h1 : m < 32) : bits .and .i64 m 1 = m % 2 := by
  obtain ⟨k, rfl⟩ := Int.eq_ofNat_of_zero_le h0
  have := and_one_all ⟨k, by omega⟩
  simp only at this
  rw [this]; omega
/-- What Is answers. -/
def isB (n : List UInt8) (l m : Int) : Bool := rightT n l m && (m % 2 == 1)
set_option maxRecDepth 100000 in
set_option maxHeartbeats 2000000 in
theorem wis_any (n : ByteArray) (l m : Int) (w : World) (hn : n.size ≤ 9223372036854775807) : Calls Tryz.prog 20 #[.agg #[.string n, .int .i64 l, .int .i64 m]] w fun e w' => e = .returned (.bool (isB n.data.toList l m)) ∧ Below w.heap.size w w' := by
  have HR := fun w => Lib.hid (wright_any n l m w hn)
  cases hr : rightT n.data.toList l m
  · have hv : Hid (isB n.data.toList l m = false) := Lib.hid (by simp [isB, hr])
    rw [hr] at HR
    clear hr
    go_enter Tryz.func20, Tryz.ntmps20
    go_wp2_with fail
    refine (HR _).out.mono ?_
    rintro e w2 ⟨rfl, hb2⟩
    obtain ⟨b0, HB⟩ := one_new hb2
    have HB' := Lib.hid HB
    clear b0 HB hb2 HR
    go_wp2_with fail
    go_ret
    exact ⟨ret_bb hv.out.symm, HB'.out⟩
  · obtain ⟨s1, s2, s3, s4⟩ := right_small hr
    have ha := and_one s3 s4
    rw [hr] at HR
    have hv : Hid (isB n.data.toList l m = (m % 2 == 1)) := Lib.hid (by simp [isB, hr])
    obtain ⟨r, hR⟩ : ∃ r, m % 2 = r := ⟨_, rfl⟩
    rw [hR] at ha hv
    have hr2 : r = 0 ∨ r = 1 := by omega
    clear hr hR
    rcases hr2 with rfl | rfl
    all_goals
      go_enter Tryz.func20, Tryz.ntmps20
      go_wp2_with fail
      refine (HR _).out.mono ?_
      rintro e w2 ⟨rfl, hb2⟩
      obtain ⟨b0, HB⟩ := one_new hb2
      obtain ⟨a0, a1, a2, g0, g1, g2⟩ := ty_cells b0
      have HB' := Lib.hid HB
      clear b0 HB hb2 HR
      go_wp2_with fail
      go_ret
      exact ⟨ret_bb hv.out.symm, HB'.out⟩
def needB (x : VarT) : Bool := !x.has && isB x.tn.data.toList x.tl x.tm
def compB (m : VM) (ps : List VarT) : Bool := ps.all fun x => !needB x || (getM m x.name).2
theorem compB_at {m : VM} {l : List VarT} {q : Nat} {x : VarT} (h : l[q]? = some x) : compB m (l.drop q) = ((!needB x || (getM m x.name).2) && compB m (l.drop (q + 1))) := by
  have hq : q < l.length := (List.getElem?_eq_some_iff.1 h).1
  have e : l[q] = x := (List.getElem?_eq_some_iff.1 h).2
  unfold compB
  rw [List.drop_eq_getElem_cons hq, e, List.all_cons]
set_option maxRecDepth 100000 in
set_option maxHeartbeats 8000000 in
theorem complete_any (ps : List VarT) (Ap : Option Addr) (cp : Nat) (m : VM) (A : Option Addr) (c : Nat) (w : World) (B : Nat) (P : Nat → Prop) (hB : B ≤ w.heap.size) (hP : ∀ b, P b → b < w.heap.size) (hps : ps.length ≤ 9223372036854775807) (hl : m.len ≤ 9223372036854775807) (htn : ∀ x, x ∈ ps → x.tn.size ≤ 9223372036854775807) (hR : RowT w P (rowOf encVar ps) Ap) (hM : MAt w B m A 0) :
    Calls Tryz.prog 73 #[.slice Ap ps.length cp, .slice A m.len c] w fun e w' => e = .returned (.bool (compB m ps)) ∧ Below w.heap.size w w' := by
  have HB := Lib.hid hB
  have HP := Lib.hid hP
  have HR := Lib.hid hR
  have HTN := Lib.hid htn
  have G := Lib.hid (fun (wx : World) (hb : Below w.heap.size w wx) (s : ByteArray) => pget_any s m A c wx B (Nat.le_trans hB hb.size) hl (MAt.below (hb.mono hB) m A 0 hM))
  clear hB hP hR hM htn hl
  go_enter Tryz.func73, Tryz.ntmps73
  go_wp2_with fail
  go_loopg [11] ps.length (fun gk i wx => ∃ q : Nat, q + gk = ps.length ∧ i = .int .i64 q ∧ Aside (compB m (ps.drop q) = compB m ps ∧ Below w.heap.size w wx))
  case atStart => exact ⟨0, by omega, rfl, Blk.Aside.intro ⟨rfl, Below.refl _ _⟩⟩
  case round =>
    obtain ⟨q, hq, rfl, HX⟩ := hrel
    obtain ⟨hf, hb⟩ := HX.out
    have HF := Lib.hid hf
    have HBB := Lib.hid hb
    clear HX hf hb
    cases gk with
    | zero =>
      obtain rfl : q = ps.length := by omega
      go_wp2_with fail
      go_ret
      exact ⟨by rw [← HF.out, List.drop_length]; rfl, HBB.out⟩
    | succ gg =>
      have hqn : q < ps.length := by omega
      have hqn' : (q : Int) < (ps.length : Int) := by omega
      obtain ⟨x, hx⟩ : ∃ x, ps[q]? = some x := ⟨_, List.getElem?_eq_getElem hqn⟩
      obtain ⟨b, p, A3, k3, A4, k4, rfl, hb, ⟨g0, g1, g2, g3, g4, g5, g6, g7, g8, g9⟩, hs1, hs2⟩ := var_at (RowT.keep (P' := P) (fun b hb => ⟨hb, HBB.out.block b (HP.out b hb)⟩) _ _ HR.out) hx
      have hbl : b < wr.heap.size := Nat.lt_of_lt_of_le (HP.out b hb) HBB.out.size
      have hK := Lib.hid (compB_at (m := m) hx)
      have IS := Lib.hid (fun wx => wis_any x.tn x.tl x.tm wx (HTN.out x (List.mem_of_getElem? hx)))
      clear hx hb hs1 hs2
      go_upto_region 4 with fail
      clear g0 g1 g2 g3 g4 g5 g6 g7 g8 g9
      have B2 := Lib.hid (dbelow_new wr (.cells #[.string x.name, .string x.tn, .int .i64 x.tl, .int .i64 x.tm, .bool x.has, .int .i64 x.v.kd, .int .i64 x.v.nn, .string x.v.ss, .slice A3 x.v.ls.len k3, .slice A4 x.v.ms.len k4] 69))
      have Y2 := Lib.hid (heap_alloc_new wr (.cells #[.string x.name, .string x.tn, .int .i64 x.tl, .int .i64 x.tm, .bool x.has, .int .i64 x.v.kd, .int .i64 x.v.nn, .string x.v.ss, .slice A3 x.v.ls.len k3, .slice A4 x.v.ms.len k4] 69))
      generalize wr.alloc (.cells #[.string x.name, .string x.tn, .int .i64 x.tl, .int .i64 x.tm, .bool x.has, .int .i64 x.v.kd, .int .i64 x.v.nn, .string x.v.ss, .slice A3 x.v.ls.len k3, .slice A4 x.v.ms.len k4] 69) = w2 at B2 Y2 ⊢
      obtain ⟨g2, hg2⟩ : ∃ g, wr.heap.size = g := ⟨_, rfl⟩
      rw [hg2] at Y2 ⊢
      have D2 := Lib.hid (HBB.out.trans (B2.out.mono HBB.out.size))
      obtain ⟨⟨y0, y1, y2, y3, y4, y5, y6, y7, y8, y9⟩, _⟩ := ten_cells Y2.out
      clear hg2 B2
      obtain ⟨nm, tn, tl, tm, hs, v⟩ := x
      dsimp only at *
      cases hs with
      | true =>
        go_wp2_with fail
        go_roundg gg
        case measure => omega
        case rel => exact ⟨q + 1, by omega, by go_num, Blk.Aside.intro ⟨by rw [← HF.out, hK.out]; simp [needB], D2.out⟩⟩
      | false =>
        obtain ⟨ib, hib⟩ : ∃ t, isB tn.data.toList tl tm = t := ⟨_, rfl⟩
        have HIB := Lib.hid hib
        rw [hib] at IS
        clear hib
        go_wp2_with fail
        refine (IS.out _).mono ?_
        rintro e w3 ⟨rfl, hb3⟩
        have D3 := Lib.hid (D2.out.trans (hb3.mono D2.out.size))
        have Y3 := (hb3.block g2 (Array.getElem?_eq_some_iff.1 Y2.out).1).trans Y2.out
        clear y0 y1 y2 y3 y4 y5 y6 y7 y8 y9 hb3
        obtain ⟨⟨y0, y1, y2, y3, y4, y5, y6, y7, y8, y9⟩, _⟩ := ten_cells Y3
        clear Y3
        cases ib with
        | false =>
          go_wp2_with fail
          go_roundg gg
          case measure => omega
          case rel => exact ⟨q + 1, by omega, by go_num, Blk.Aside.intro ⟨by rw [← HF.out, hK.out]; simp [needB, HIB.out], D3.out⟩⟩
        | true =>
          go_wp2_with fail
          refine (G.out _ D3.out nm).mono ?_
          rintro e w4 ⟨d0, d1, d2, d3, d4, rfl, hv, hb4⟩
          have D4 := Lib.hid (D3.out.trans (hb4.mono D3.out.size))
          obtain ⟨gv, hgv⟩ : ∃ t, getM m nm = t := ⟨_, rfl⟩
          rw [hgv] at hv hK ⊢
          obtain ⟨⟨vk, vn, vs, vl, vm⟩, ok⟩ := gv
          unfold VAt at hv
          obtain ⟨rfl, rfl, rfl, _, ⟨E3, j3, rfl, _, _⟩, E4, j4, rfl, _, _⟩ := hv
          have HGV := Lib.hid hgv
          clear hgv hb4 y0 y1 y2 y3 y4 y5 y6 y7 y8 y9
          dsimp only
          go_upto_region 6 with fail
          have D5 := Lib.hid (D4.out.alloc D4.out.size (.cells #[.int .i64 vk, .int .i64 vn, .string vs, .slice E3 vl.len j3, .slice E4 vm.len j4] 30))
          generalize w4.alloc (.cells #[.int .i64 vk, .int .i64 vn, .string vs, .slice E3 vl.len j3, .slice E4 vm.len j4] 30) = w5 at D5 ⊢
          cases ok with
          | false =>
            go_wp2_with fail
            go_ret
            exact ⟨by rw [← HF.out, hK.out]; simp [needB, HIB.out], D5.out⟩
          | true =>
            go_wp2_with fail
            go_roundg gg
            case measure => omega
            case rel => exact ⟨q + 1, by omega, by go_num, Blk.Aside.intro ⟨by rw [← HF.out, hK.out]; simp [needB, HIB.out], D5.out⟩⟩
end Go.Proofs.YtcfdfgbobnocnaaGreatDoor
