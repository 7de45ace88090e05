/- The walk of the landed Read. -/
import Derived.Test.YtfinboplkjijhaaWPrint
namespace Go.Proofs.Ytfinboplkjijhaa
open Go.RowKit

theorem ret_sb {x y : ByteArray} {b c : Bool} {w : World} (h : x = y) (h2 : b = c) : Ending.returned (.tuple #[.string x, .bool b]) = .returned (.tuple #[.string y, .bool c]) ∧ w = w := by rw [h, h2]; exact ⟨rfl, rfl⟩
/-- What stands between the brackets, and whether there are two. -/
def inB (l : List UInt8) : List UInt8 := Lib.trimSuffix (Lib.trimPrefix l [91]) [93]
def isInB (l : List UInt8) : Bool := Lib.hasPrefix l [91] && Lib.hasSuffix (Lib.trimPrefix l [91]) [93]
theorem size_mk (l : List UInt8) : (⟨l.toArray⟩ : ByteArray).size = l.length := by
  show l.toArray.size = _
  simp
theorem trimp_le (s : ByteArray) (p : List UInt8) : (⟨(Lib.trimPrefix s.data.toList p).toArray⟩ : ByteArray).size ≤ s.size := by
  rw [size_mk, ← len_data]; exact Lib.trimPrefix_le _ _
theorem trims_le (s : ByteArray) (p : List UInt8) : (⟨(Lib.trimSuffix s.data.toList p).toArray⟩ : ByteArray).size ≤ s.size := by
  rw [size_mk, ← len_data]; exact Lib.trimSuffix_le _ _
set_option maxRecDepth 100000 in
set_option maxHeartbeats 1000000 in
theorem within_any (s : ByteArray) (w : World) (hs : s.size ≤ 9000) : Calls Try.prog 31 #[.string s] w fun e w' => e = .returned (.tuple #[.string ⟨(inB s.data.toList).toArray⟩, .bool (isInB s.data.toList)]) ∧ w = w' := by
  have HP := Lib.hid (wcutPrefix_any s ⟨#[91]⟩ w)
  have hle := trimp_le s (⟨#[91]⟩ : ByteArray).data.toList
  obtain ⟨T, hT⟩ : ∃ T : ByteArray, (⟨(Lib.trimPrefix s.data.toList (⟨#[91]⟩ : ByteArray).data.toList).toArray⟩ : ByteArray) = T := ⟨_, rfl⟩
  rw [hT] at HP hle
  have hTd : T.data.toList = Lib.trimPrefix s.data.toList [91] := by rw [← hT]
  have HS := Lib.hid (wcutSuffix_any T ⟨#[93]⟩ w (by omega))
  obtain ⟨U, hU⟩ : ∃ U : ByteArray, (⟨(Lib.trimSuffix T.data.toList (⟨#[93]⟩ : ByteArray).data.toList).toArray⟩ : ByteArray) = U := ⟨_, rfl⟩
  rw [hU] at HS
  have hUd : Hid (U = (⟨(inB s.data.toList).toArray⟩ : ByteArray)) := Lib.hid (by rw [← hU, hTd]; rfl)
  cases ha : Lib.hasPrefix s.data.toList (⟨#[91]⟩ : ByteArray).data.toList
  · have hr : Hid (isInB s.data.toList = false) := Lib.hid (by rw [isInB, show Lib.hasPrefix s.data.toList [91] = false from ha]; rfl)
    rw [ha] at HP
    clear hT hTd hU ha
    go_enter Try.func31, Try.ntmps31
    go_wp2_with fail
    refine HP.out.mono ?_
    rintro e w1 ⟨rfl, rfl⟩
    go_wp2_with fail
    refine HS.out.mono ?_
    rintro e w1 ⟨rfl, rfl⟩
    go_wp2_with fail
    go_ret2
    exact ret_sb hUd.out hr.out.symm
  · rw [ha] at HP
    have hr : Hid (isInB s.data.toList = Lib.hasSuffix T.data.toList (⟨#[93]⟩ : ByteArray).data.toList) := Lib.hid (by rw [isInB, show Lib.hasPrefix s.data.toList [91] = true from ha, hTd]; rfl)
    clear hT hTd hU ha
    go_enter Try.func31, Try.ntmps31
    go_wp2_with fail
    refine HP.out.mono ?_
    rintro e w1 ⟨rfl, rfl⟩
    go_wp2_with fail
    refine HS.out.mono ?_
    rintro e w1 ⟨rfl, rfl⟩
    go_wp2_with fail
    go_ret2
    exact ret_sb hUd.out hr.out.symm

theorem set_0 {w : World} {b : Nat} {x y z v : Value} (h : w.heap[b]? = some (.cells #[x, y, z] 23 (0, 0))) : (w.setCell ⟨b, 0, none⟩ v).heap[b]? = some (.cells #[v, y, z] 23 (0, 0)) := by
  simp [World.setCell, Array.getElem?_modify, h]
theorem set_1 {w : World} {b : Nat} {x y z v : Value} (h : w.heap[b]? = some (.cells #[x, y, z] 23 (0, 0))) : (w.setCell ⟨b, 1, none⟩ v).heap[b]? = some (.cells #[x, v, z] 23 (0, 0)) := by
  simp [World.setCell, Array.getElem?_modify, h]
theorem set_2 {w : World} {b : Nat} {x y z v : Value} (h : w.heap[b]? = some (.cells #[x, y, z] 23 (0, 0))) : (w.setCell ⟨b, 2, none⟩ v).heap[b]? = some (.cells #[x, y, v] 23 (0, 0)) := by
  simp [World.setCell, Array.getElem?_modify, h]
theorem or_all : ∀ a : Fin 32, ∀ i : Fin 5, bits .or .i64 ((a.val : Nat) : Int) (2 ^ i.val : Int) = ((a.val ||| 2 ^ i.val : Nat) : Int) ∧ a.val ||| 2 ^ i.val < 32 := by decide +kernel
theorem or_at {q i : Nat} (hq : q < 32) (hi : i ≤ 4) : bits .or .i64 (q : Int) (2 ^ i : Int) = ((q ||| 2 ^ i : Nat) : Int) ∧ q ||| 2 ^ i < 32 := or_all ⟨q, hq⟩ ⟨i, by omega⟩
/-- What the landed reader answers. -/
def readV (r : List UInt8 × Nat × Nat) : Value := if rightT r.1 r.2.1 r.2.2 = true then yesT ⟨r.1.toArray⟩ r.2.1 r.2.2 else noT
/-- One step of the reader. -/
theorem rd_step (f j m : Nat) (s : List UInt8) : rdB (f + 1) j m s = if isInB (Lib.trimSuffix s [33]) = true then rdB f (j + 1) (if Lib.hasSuffix s [33] then m ||| 2 ^ j else m) (inB (Lib.trimSuffix s [33])) else (Lib.trimSuffix s [33], j, if Lib.hasSuffix s [33] then m ||| 2 ^ j else m) := rfl

set_option maxRecDepth 100000 in
set_option maxHeartbeats 4000000 in
theorem read_any (s : ByteArray) (w : World) (hs : s.size ≤ 9000) : Calls Try.prog 13 #[.string s] w fun e w' => e = .returned (readV (rdB 5 0 0 s.data.toList)) ∧ Below w.heap.size w w' := by
  obtain ⟨h0, h1⟩ := new_two w (.cells #[.string ⟨#[]⟩, .int .i64 0, .int .i64 0] 23) (.cells #[.string ⟨#[]⟩, .int .i64 0, .int .i64 0] 23)
  have HB0 := Lib.hid (below_new.trans ((below_new' (w.alloc (.cells #[.string ⟨#[]⟩, .int .i64 0, .int .i64 0] 23)) (.cells #[.string ⟨#[]⟩, .int .i64 0, .int .i64 0] 23)).mono (by simp)) : Below w.heap.size w _)
  have H0 := Lib.hid h0
  have H1 := Lib.hid h1
  clear h0 h1
  go_enter Try.func13, Try.ntmps13
  go_wp2_with fail
  go_loopg [0, 5, 6, 7, 8] 5 (fun g cv bv mv iv ov wx => ∃ (j q : Nat) (cur : ByteArray), j + g = 5 ∧ q < 32 ∧ cv = .string cur ∧ cur.size ≤ s.size ∧ wx.heap[w.heap.size]? = some (.cells #[.string ⟨#[]⟩, .int .i64 0, .int .i64 0] 23 (0, 0)) ∧ wx.heap[w.heap.size + 1]? = some (.cells #[.string ⟨#[]⟩, .int .i64 j, .int .i64 q] 23 (0, 0)) ∧ Below w.heap.size w wx ∧ Aside (rdB 5 0 0 s.data.toList = rdB g j q cur.data.toList))
  case atStart => exact ⟨0, 0, s, by omega, by omega, rfl, by omega, H0.out, H1.out, HB0.out, Aside.intro rfl⟩
  case round =>
    obtain ⟨j, q, cur, hj, hq, rfl, hcs, b0, b1, hb, H⟩ := hrel
    obtain ⟨c0, c1, c2, f0, f1, f2⟩ := ty_cells b1
    cases gk with
    | zero =>
      have hv : Hid (readV (rdB 5 0 0 s.data.toList) = noT) := Lib.hid (by rw [H.out]; rfl)
      have HR := fun w => Lib.hid (right_any ⟨#[]⟩ j q w (by show 0 ≤ 9000; omega))
      rw [show rightT (⟨#[]⟩ : ByteArray).data.toList j q = false from rfl] at HR
      have hj5 : (5 : Int) ≤ (j : Int) := by omega
      have B0 := Lib.hid b0
      have HB := Lib.hid hb
      clear H b0 b1 hb
      go_wp2_with fail
      refine (HR _).out.mono ?_
      rintro e w2 ⟨rfl, hb2⟩
      have d0 := Lib.hid ((hb2.block w.heap.size (lt_of_heap B0.out)).trans B0.out)
      obtain ⟨a0, a1, a2, g0, g1, g2⟩ := ty_cells d0.out
      have HB2 := Lib.hid (HB.out.trans (hb2.mono HB.out.size))
      clear hb2 HR
      go_wp2_with fail
      refine ret_ty rfl rfl rfl (ty_set d0.out) ⟨?_, set3 HB2.out (Nat.le_refl _) _ _ _⟩
      rw [hv.out]
      rfl
    | succ f =>
      have hj4 : j ≤ 4 := by omega
      have hj4' : (j : Int) ≤ 4 := by omega
      have hj0 : (0 : Int) ≤ (j : Int) := by omega
      have hw : IntKind.i64.wrap ((2 : Int) ^ j) = 2 ^ j := by
        have : j = 0 ∨ j = 1 ∨ j = 2 ∨ j = 3 ∨ j = 4 := by omega
        rcases this with rfl | rfl | rfl | rfl | rfl <;> rfl
      obtain ⟨hor, hor2⟩ := or_at hq hj4
      obtain ⟨q', hq'⟩ : ∃ q', q ||| 2 ^ j = q' := ⟨_, rfl⟩
      rw [hq'] at hor hor2
      rw [rd_step f j q cur.data.toList] at H
      have HC := fun w => Lib.hid (wcutSuffix_any cur ⟨#[33]⟩ w (by omega))
      have hle := trims_le cur (⟨#[33]⟩ : ByteArray).data.toList
      obtain ⟨X, hX⟩ : ∃ X : ByteArray, (⟨(Lib.trimSuffix cur.data.toList (⟨#[33]⟩ : ByteArray).data.toList).toArray⟩ : ByteArray) = X := ⟨_, rfl⟩
      rw [hX] at HC hle
      have hXd : Lib.trimSuffix cur.data.toList [33] = X.data.toList := by rw [← hX]
      rw [hXd, hq'] at H
      have HI := fun w => Lib.hid (within_any X w (by omega))
      have hle2 : (⟨(inB X.data.toList).toArray⟩ : ByteArray).size ≤ X.size := by
        have h2 := trimp_le X [91]
        rw [size_mk] at h2 ⊢
        exact Nat.le_trans (Lib.trimSuffix_le _ _) h2
      obtain ⟨Y, hY⟩ : ∃ Y : ByteArray, (⟨(inB X.data.toList).toArray⟩ : ByteArray) = Y := ⟨_, rfl⟩
      rw [hY] at HI hle2
      have hYd : inB X.data.toList = Y.data.toList := by rw [← hY]
      rw [hYd] at H
      have hXs : X.size ≤ 9000 := by omega
      have hYs : Y.size ≤ s.size := by omega
      clear hX hXd hY hYd hq'
      cases hm : Lib.hasSuffix cur.data.toList (⟨#[33]⟩ : ByteArray).data.toList
      · rw [hm] at HC
        rw [show Lib.hasSuffix cur.data.toList [33] = false from hm] at H
        clear hm
        cases hi : isInB X.data.toList
        · rw [hi] at HI H
          simp only [Bool.false_eq_true, if_false] at H
          have B0 := Lib.hid (set_other b0 (by omega) : (wr.setCell ⟨w.heap.size + 1, 0, none⟩ (.string X)).heap[w.heap.size]? = _)
          have B1 := Lib.hid (set_0 b1 (v := .string X))
          have HB := Lib.hid (hb.setCell (Nat.le_succ _) _ : Below w.heap.size w (wr.setCell ⟨w.heap.size + 1, 0, none⟩ (.string X)))
          have HR := fun w => Lib.hid (right_any X j q w hXs)
          have HN := Lib.hid H.out
          clear H b0 b1 hb
          cases hr : rightT X.data.toList j q
          · rw [hr] at HR
            have hv : Hid (readV (rdB 5 0 0 s.data.toList) = noT) := Lib.hid (by rw [HN.out]; simp [readV, hr])
            clear hr
            go_wp2_with fail
            refine (HC _).out.mono ?_
            rintro e w1 ⟨rfl, rfl⟩
            go_wp2_with fail
            refine (HI _).out.mono ?_
            rintro e w1 ⟨rfl, rfl⟩
            go_wp2_with fail
            refine (HR _).out.mono ?_
            rintro e w2 ⟨rfl, hb2⟩
            have d0 := Lib.hid ((hb2.block w.heap.size (lt_of_heap B0.out)).trans B0.out)
            obtain ⟨a0, a1, a2, g0, g1, g2⟩ := ty_cells d0.out
            have HB2 := Lib.hid (HB.out.trans (hb2.mono HB.out.size))
            clear hb2 HR
            go_wp2_with fail
            refine ret_ty rfl rfl rfl (ty_set d0.out) ⟨?_, set3 HB2.out (Nat.le_refl _) _ _ _⟩
            rw [hv.out]
            rfl
          · rw [hr] at HR
            have hv : Hid (readV (rdB 5 0 0 s.data.toList) = yesT X j q) := Lib.hid (by rw [HN.out]; simp [readV, hr])
            clear hr
            go_wp2_with fail
            refine (HC _).out.mono ?_
            rintro e w1 ⟨rfl, rfl⟩
            go_wp2_with fail
            refine (HI _).out.mono ?_
            rintro e w1 ⟨rfl, rfl⟩
            go_wp2_with fail
            refine (HR _).out.mono ?_
            rintro e w2 ⟨rfl, hb2⟩
            have d0 := Lib.hid ((hb2.block w.heap.size (lt_of_heap B0.out)).trans B0.out)
            have d1 := Lib.hid ((hb2.block (w.heap.size + 1) (lt_of_heap B1.out)).trans B1.out)
            obtain ⟨a0, a1, a2, g0, g1, g2⟩ := ty_cells d0.out
            obtain ⟨x0, x1, x2, y0, y1, y2⟩ := ty_cells d1.out
            have HB2 := Lib.hid (HB.out.trans (hb2.mono HB.out.size))
            clear hb2 HR
            go_wp2_with fail
            refine ret_ty rfl rfl rfl (ty_set d0.out) ⟨?_, set3 HB2.out (Nat.le_refl _) _ _ _⟩
            rw [hv.out]
            rfl
        · rw [hi] at HI H
          simp only [Bool.false_eq_true, if_false, if_true] at H
          have HN := Lib.hid H.out
          have B0 := Lib.hid b0
          have B1 := Lib.hid b1
          have HB := Lib.hid hb
          clear H b0 b1 hb
          go_wp2_with fail
          refine (HC _).out.mono ?_
          rintro e w1 ⟨rfl, rfl⟩
          go_wp2_with fail
          refine (HI _).out.mono ?_
          rintro e w1 ⟨rfl, rfl⟩
          go_wp2_with fail
          go_roundg f
          case measure => omega
          case rel => exact ⟨j + 1, q, Y, by omega, by assumption, rfl, hYs, set_other B0.out (by omega), set_1 B1.out, HB.out.setCell (Nat.le_succ _) _, Aside.intro HN.out⟩
      · rw [hm] at HC
        rw [show Lib.hasSuffix cur.data.toList [33] = true from hm] at H
        clear hm
        cases hi : isInB X.data.toList
        · rw [hi] at HI H
          simp only [Bool.false_eq_true, if_false, if_true] at H
          have B0 := Lib.hid (set_other (set_other b0 (by omega)) (by omega) : ((wr.setCell ⟨w.heap.size + 1, 2, none⟩ (.int .i64 q')).setCell ⟨w.heap.size + 1, 0, none⟩ (.string X)).heap[w.heap.size]? = _)
          have B1 := Lib.hid (set_0 (set_2 b1 (v := .int .i64 q')) (v := .string X))
          have HB := Lib.hid ((hb.setCell (Nat.le_succ _) _).setCell (Nat.le_succ _) _ : Below w.heap.size w ((wr.setCell ⟨w.heap.size + 1, 2, none⟩ (.int .i64 q')).setCell ⟨w.heap.size + 1, 0, none⟩ (.string X)))
          have HR := fun w => Lib.hid (right_any X j q' w hXs)
          have HN := Lib.hid H.out
          clear H b0 b1 hb
          cases hr : rightT X.data.toList j q'
          · rw [hr] at HR
            have hv : Hid (readV (rdB 5 0 0 s.data.toList) = noT) := Lib.hid (by rw [HN.out]; simp [readV, hr])
            clear hr
            go_wp2_with fail
            refine (HC _).out.mono ?_
            rintro e w1 ⟨rfl, rfl⟩
            go_wp2_with fail
            go_region
            go_wp2_with fail
            refine (HI _).out.mono ?_
            rintro e w1 ⟨rfl, rfl⟩
            go_wp2_with fail
            refine (HR _).out.mono ?_
            rintro e w2 ⟨rfl, hb2⟩
            have d0 := Lib.hid ((hb2.block w.heap.size (lt_of_heap B0.out)).trans B0.out)
            obtain ⟨a0, a1, a2, g0, g1, g2⟩ := ty_cells d0.out
            have HB2 := Lib.hid ((Below.drew HB.out).trans (hb2.mono HB.out.size))
            clear hb2 HR
            go_wp2_with fail
            refine ret_ty rfl rfl rfl (ty_set d0.out) ⟨?_, set3 HB2.out (Nat.le_refl _) _ _ _⟩
            rw [hv.out]
            rfl
          · rw [hr] at HR
            have hv : Hid (readV (rdB 5 0 0 s.data.toList) = yesT X j q') := Lib.hid (by rw [HN.out]; simp [readV, hr])
            clear hr
            go_wp2_with fail
            refine (HC _).out.mono ?_
            rintro e w1 ⟨rfl, rfl⟩
            go_wp2_with fail
            go_region
            go_wp2_with fail
            refine (HI _).out.mono ?_
            rintro e w1 ⟨rfl, rfl⟩
            go_wp2_with fail
            refine (HR _).out.mono ?_
            rintro e w2 ⟨rfl, hb2⟩
            have d0 := Lib.hid ((hb2.block w.heap.size (lt_of_heap B0.out)).trans B0.out)
            have d1 := Lib.hid ((hb2.block (w.heap.size + 1) (lt_of_heap B1.out)).trans B1.out)
            obtain ⟨a0, a1, a2, g0, g1, g2⟩ := ty_cells d0.out
            obtain ⟨x0, x1, x2, y0, y1, y2⟩ := ty_cells d1.out
            have HB2 := Lib.hid ((Below.drew HB.out).trans (hb2.mono HB.out.size))
            clear hb2 HR
            go_wp2_with fail
            refine ret_ty rfl rfl rfl (ty_set d0.out) ⟨?_, set3 HB2.out (Nat.le_refl _) _ _ _⟩
            rw [hv.out]
            rfl
        · rw [hi] at HI H
          simp only [if_true] at H
          have HN := Lib.hid H.out
          have B0 := Lib.hid (set_other b0 (by omega) : (wr.setCell ⟨w.heap.size + 1, 2, none⟩ (.int .i64 q')).heap[w.heap.size]? = _)
          have B1 := Lib.hid (set_2 b1 (v := .int .i64 q'))
          have HB := Lib.hid (hb.setCell (Nat.le_succ _) _ : Below w.heap.size w (wr.setCell ⟨w.heap.size + 1, 2, none⟩ (.int .i64 q')))
          clear H b0 b1 hb
          go_wp2_with fail
          refine (HC _).out.mono ?_
          rintro e w1 ⟨rfl, rfl⟩
          go_wp2_with fail
          go_region
          go_wp2_with fail
          refine (HI _).out.mono ?_
          rintro e w1 ⟨rfl, rfl⟩
          go_wp2_with fail
          go_roundg f
          case measure => omega
          case rel => exact ⟨j + 1, q', Y, by omega, by assumption, rfl, hYs, set_other B0.out (by omega), set_1 B1.out, Below.drew (HB.out.setCell (Nat.le_succ _) _), Aside.intro HN.out⟩
end Go.Proofs.Ytfinboplkjijhaa
