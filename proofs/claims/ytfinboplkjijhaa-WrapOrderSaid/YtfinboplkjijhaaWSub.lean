/- The walks of Is and Sub, of the landed package and of the document's own answer. -/
import Derived.Test.YtfinboplkjijhaaWParts
namespace Go.Proofs.Ytfinboplkjijhaa
open Go.RowKit

theorem and_one_all : ∀ a : Fin 32, bits .and .i64 ((a.val : Nat) : Int) 1 = ((a.val % 2 : Nat) : Int) := by decide +kernel
theorem and_one {m : Int} (h0 : 0 ≤ m) (h1 : m < 32) : bits .and .i64 m 1 = m % 2 := by
  obtain ⟨k, rfl⟩ := Int.eq_ofNat_of_zero_le h0
  have := and_one_all ⟨k, by omega⟩
  simp only at this
  rw [this]; omega
/-- What Is answers. -/
def isB (n : List UInt8) (l m : Int) : Bool := rightT n l m && (m % 2 == 1)
/-- What Sub answers. -/
def subB (n : ByteArray) (l m : Int) (n' : ByteArray) (l' m' : Int) : Bool := rightT n.data.toList l m && (rightT n'.data.toList l' m' && (n.toList == n'.toList && (l == l' && (bits .andNot .i64 m' m == 0))))

set_option maxRecDepth 100000 in
set_option maxHeartbeats 2000000 in
theorem is_any (n : ByteArray) (l m : Int) (w : World) (hn : n.size ≤ 9000) : Calls Try.prog 23 #[.agg #[.string n, .int .i64 l, .int .i64 m]] w fun e w' => e = .returned (.bool (isB n.data.toList l m)) ∧ Below w.heap.size w w' := by
  have HR := fun w => Lib.hid (right_any n l m w hn)
  cases hr : rightT n.data.toList l m
  · have hv : Hid (isB n.data.toList l m = false) := Lib.hid (by simp [isB, hr])
    rw [hr] at HR
    clear hr
    go_enter Try.func23, Try.ntmps23
    go_wp2_with fail
    refine (HR _).out.mono ?_
    rintro e w2 ⟨rfl, hb2⟩
    obtain ⟨b0, HB⟩ := one_new hb2
    have HB' := Lib.hid HB
    clear b0 HB hb2 HR
    go_wp2_with fail
    go_ret
    exact ⟨ret_bb hv.out.symm, HB'.out⟩
  · obtain ⟨s1, s2, s3, s4⟩ := right_small hr
    have ha := and_one s3 s4
    rw [hr] at HR
    have hv : Hid (isB n.data.toList l m = (m % 2 == 1)) := Lib.hid (by simp [isB, hr])
    obtain ⟨r, hR⟩ : ∃ r, m % 2 = r := ⟨_, rfl⟩
    rw [hR] at ha hv
    have hr2 : r = 0 ∨ r = 1 := by omega
    clear hr hR
    rcases hr2 with rfl | rfl
    all_goals
      go_enter Try.func23, Try.ntmps23
      go_wp2_with fail
      refine (HR _).out.mono ?_
      rintro e w2 ⟨rfl, hb2⟩
      obtain ⟨b0, HB⟩ := one_new hb2
      obtain ⟨a0, a1, a2, g0, g1, g2⟩ := ty_cells b0
      have HB' := Lib.hid HB
      clear b0 HB hb2 HR
      go_wp2_with fail
      go_ret
      exact ⟨ret_bb hv.out.symm, HB'.out⟩
set_option maxRecDepth 100000 in
set_option maxHeartbeats 2000000 in
theorem ris_any (n : ByteArray) (l m : Int) (w : World) (hn : n.size ≤ 9000) : Calls Try.prog 24 #[.agg #[.string n, .int .i64 l, .int .i64 m]] w fun e w' => e = .returned (.bool (isB n.data.toList l m)) ∧ Below w.heap.size w w' := by
  have HR := fun w => Lib.hid (rtright_any n l m w hn)
  cases hr : rightT n.data.toList l m
  · have hv : Hid (isB n.data.toList l m = false) := Lib.hid (by simp [isB, hr])
    rw [hr] at HR
    clear hr
    go_enter Try.func24, Try.ntmps24
    go_wp2_with fail
    refine (HR _).out.mono ?_
    rintro e w2 ⟨rfl, hb2⟩
    obtain ⟨b0, HB⟩ := one_new hb2
    have HB' := Lib.hid HB
    clear b0 HB hb2 HR
    go_wp2_with fail
    go_ret
    exact ⟨ret_bb hv.out.symm, HB'.out⟩
  · obtain ⟨s1, s2, s3, s4⟩ := right_small hr
    have ha := and_one s3 s4
    rw [hr] at HR
    have hv : Hid (isB n.data.toList l m = (m % 2 == 1)) := Lib.hid (by simp [isB, hr])
    obtain ⟨r, hR⟩ : ∃ r, m % 2 = r := ⟨_, rfl⟩
    rw [hR] at ha hv
    have hr2 : r = 0 ∨ r = 1 := by omega
    clear hr hR
    rcases hr2 with rfl | rfl
    all_goals
      go_enter Try.func24, Try.ntmps24
      go_wp2_with fail
      refine (HR _).out.mono ?_
      rintro e w2 ⟨rfl, hb2⟩
      obtain ⟨b0, HB⟩ := one_new hb2
      obtain ⟨a0, a1, a2, g0, g1, g2⟩ := ty_cells b0
      have HB' := Lib.hid HB
      clear b0 HB hb2 HR
      go_wp2_with fail
      go_ret
      exact ⟨ret_bb hv.out.symm, HB'.out⟩
theorem lt_of_heap {w : World} {b : Nat} {o : Obj} (h : w.heap[b]? = some o) : b < w.heap.size := (Array.getElem?_eq_some_iff.1 h).1
set_option maxRecDepth 100000 in
set_option maxHeartbeats 2000000 in
theorem sub_any (n : ByteArray) (l m : Int) (n' : ByteArray) (l' m' : Int) (w : World) (hn : n.size ≤ 9000) (hn' : n'.size ≤ 9000) : Calls Try.prog 25 #[.agg #[.string n, .int .i64 l, .int .i64 m], .agg #[.string n', .int .i64 l', .int .i64 m']] w fun e w' => e = .returned (.bool (subB n l m n' l' m')) ∧ Below w.heap.size w w' := by
  have HR := fun w => Lib.hid (right_any n l m w hn)
  have HS := fun w => Lib.hid (right_any n' l' m' w hn')
  cases hr : rightT n.data.toList l m
  · have hv : Hid (subB n l m n' l' m' = false) := Lib.hid (by simp [subB, hr])
    rw [hr] at HR
    clear hr
    go_enter Try.func25, Try.ntmps25
    go_wp2_with fail
    refine (HR _).out.mono ?_
    rintro e w2 ⟨rfl, hb2⟩
    obtain ⟨b0, b1, HB⟩ := two_new hb2
    obtain ⟨a0, a1, a2, g0, g1, g2⟩ := ty_cells b0
    obtain ⟨c0, c1, c2, f0, f1, f2⟩ := ty_cells b1
    have HB' := Lib.hid HB
    clear b0 b1 HB hb2 HR
    go_wp2_with fail
    go_ret
    exact ⟨ret_bb hv.out.symm, HB'.out⟩
  · rw [hr] at HR
    cases hs : rightT n'.data.toList l' m'
    · have hv : Hid (subB n l m n' l' m' = false) := Lib.hid (by simp [subB, hs])
      rw [hs] at HS
      clear hr hs
      go_enter Try.func25, Try.ntmps25
      go_wp2_with fail
      refine (HR _).out.mono ?_
      rintro e w2 ⟨rfl, hb2⟩
      obtain ⟨b0, b1, HB⟩ := two_new hb2
      obtain ⟨a0, a1, a2, g0, g1, g2⟩ := ty_cells b0
      obtain ⟨c0, c1, c2, f0, f1, f2⟩ := ty_cells b1
      have H0 := Lib.hid b0
      have H1 := Lib.hid b1
      have HB' := Lib.hid HB
      clear b0 b1 HB hb2 HR
      go_wp2_with fail
      refine (HS _).out.mono ?_
      rintro e w3 ⟨rfl, hb3⟩
      obtain ⟨a0, a1, a2, g0, g1, g2⟩ := ty_cells ((hb3.block w.heap.size (lt_of_heap H0.out)).trans H0.out)
      obtain ⟨c0, c1, c2, f0, f1, f2⟩ := ty_cells ((hb3.block (w.heap.size + 1) (lt_of_heap H1.out)).trans H1.out)
      have HB3 := Lib.hid (HB'.out.trans (hb3.mono HB'.out.size))
      clear hb3 HS
      go_wp2_with fail
      go_ret
      exact ⟨ret_bb hv.out.symm, HB3.out⟩
    · rw [hs] at HS
      have hv : Hid (subB n l m n' l' m' = (n.toList == n'.toList && (l == l' && (bits .andNot .i64 m' m == 0)))) := Lib.hid (by simp [subB, hr, hs])
      clear hr hs
      obtain ⟨t, ht⟩ : ∃ t, (n.toList == n'.toList) = t := ⟨_, rfl⟩
      obtain ⟨u, hu⟩ : ∃ u, (l == l') = u := ⟨_, rfl⟩
      obtain ⟨v, hv'⟩ : ∃ v, (bits .andNot .i64 m' m == 0) = v := ⟨_, rfl⟩
      rw [ht, hu, hv'] at hv
      cases t
      · 
        go_enter Try.func25, Try.ntmps25
        go_wp2_with fail
        refine (HR _).out.mono ?_
        rintro e w2 ⟨rfl, hb2⟩
        obtain ⟨b0, b1, HB⟩ := two_new hb2
        obtain ⟨a0, a1, a2, g0, g1, g2⟩ := ty_cells b0
        obtain ⟨c0, c1, c2, f0, f1, f2⟩ := ty_cells b1
        have H0 := Lib.hid b0
        have H1 := Lib.hid b1
        have HB' := Lib.hid HB
        clear b0 b1 HB hb2 HR
        go_wp2_with fail
        refine (HS _).out.mono ?_
        rintro e w3 ⟨rfl, hb3⟩
        obtain ⟨a0, a1, a2, g0, g1, g2⟩ := ty_cells ((hb3.block w.heap.size (lt_of_heap H0.out)).trans H0.out)
        obtain ⟨c0, c1, c2, f0, f1, f2⟩ := ty_cells ((hb3.block (w.heap.size + 1) (lt_of_heap H1.out)).trans H1.out)
        have HB3 := Lib.hid (HB'.out.trans (hb3.mono HB'.out.size))
        clear hb3 HS
        go_wp2_with fail
        go_ret
        exact ⟨ret_bb hv.out.symm, HB3.out⟩
      · cases u
        · 
          go_enter Try.func25, Try.ntmps25
          go_wp2_with fail
          refine (HR _).out.mono ?_
          rintro e w2 ⟨rfl, hb2⟩
          obtain ⟨b0, b1, HB⟩ := two_new hb2
          obtain ⟨a0, a1, a2, g0, g1, g2⟩ := ty_cells b0
          obtain ⟨c0, c1, c2, f0, f1, f2⟩ := ty_cells b1
          have H0 := Lib.hid b0
          have H1 := Lib.hid b1
          have HB' := Lib.hid HB
          clear b0 b1 HB hb2 HR
          go_wp2_with fail
          refine (HS _).out.mono ?_
          rintro e w3 ⟨rfl, hb3⟩
          obtain ⟨a0, a1, a2, g0, g1, g2⟩ := ty_cells ((hb3.block w.heap.size (lt_of_heap H0.out)).trans H0.out)
          obtain ⟨c0, c1, c2, f0, f1, f2⟩ := ty_cells ((hb3.block (w.heap.size + 1) (lt_of_heap H1.out)).trans H1.out)
          have HB3 := Lib.hid (HB'.out.trans (hb3.mono HB'.out.size))
          clear hb3 HS
          go_wp2_with fail
          go_ret
          exact ⟨ret_bb hv.out.symm, HB3.out⟩
        · cases v
          all_goals
            go_enter Try.func25, Try.ntmps25
            go_wp2_with fail
            refine (HR _).out.mono ?_
            rintro e w2 ⟨rfl, hb2⟩
            obtain ⟨b0, b1, HB⟩ := two_new hb2
            obtain ⟨a0, a1, a2, g0, g1, g2⟩ := ty_cells b0
            obtain ⟨c0, c1, c2, f0, f1, f2⟩ := ty_cells b1
            have H0 := Lib.hid b0
            have H1 := Lib.hid b1
            have HB' := Lib.hid HB
            clear b0 b1 HB hb2 HR
            go_wp2_with fail
            refine (HS _).out.mono ?_
            rintro e w3 ⟨rfl, hb3⟩
            obtain ⟨a0, a1, a2, g0, g1, g2⟩ := ty_cells ((hb3.block w.heap.size (lt_of_heap H0.out)).trans H0.out)
            obtain ⟨c0, c1, c2, f0, f1, f2⟩ := ty_cells ((hb3.block (w.heap.size + 1) (lt_of_heap H1.out)).trans H1.out)
            have HB3 := Lib.hid (HB'.out.trans (hb3.mono HB'.out.size))
            clear hb3 HS
            go_wp2_with fail
            go_ret
            exact ⟨ret_bb hv.out.symm, HB3.out⟩
set_option maxRecDepth 100000 in
set_option maxHeartbeats 2000000 in
theorem rsub_any (n : ByteArray) (l m : Int) (n' : ByteArray) (l' m' : Int) (w : World) (hn : n.size ≤ 9000) (hn' : n'.size ≤ 9000) : Calls Try.prog 26 #[.agg #[.string n, .int .i64 l, .int .i64 m], .agg #[.string n', .int .i64 l', .int .i64 m']] w fun e w' => e = .returned (.bool (subB n l m n' l' m')) ∧ Below w.heap.size w w' := by
  have HR := fun w => Lib.hid (rtright_any n l m w hn)
  have HS := fun w => Lib.hid (rtright_any n' l' m' w hn')
  cases hr : rightT n.data.toList l m
  · have hv : Hid (subB n l m n' l' m' = false) := Lib.hid (by simp [subB, hr])
    rw [hr] at HR
    clear hr
    go_enter Try.func26, Try.ntmps26
    go_wp2_with fail
    refine (HR _).out.mono ?_
    rintro e w2 ⟨rfl, hb2⟩
    obtain ⟨b0, b1, HB⟩ := two_new hb2
    obtain ⟨a0, a1, a2, g0, g1, g2⟩ := ty_cells b0
    obtain ⟨c0, c1, c2, f0, f1, f2⟩ := ty_cells b1
    have HB' := Lib.hid HB
    clear b0 b1 HB hb2 HR
    go_wp2_with fail
    go_ret
    exact ⟨ret_bb hv.out.symm, HB'.out⟩
  · rw [hr] at HR
    cases hs : rightT n'.data.toList l' m'
    · have hv : Hid (subB n l m n' l' m' = false) := Lib.hid (by simp [subB, hs])
      rw [hs] at HS
      clear hr hs
      go_enter Try.func26, Try.ntmps26
      go_wp2_with fail
      refine (HR _).out.mono ?_
      rintro e w2 ⟨rfl, hb2⟩
      obtain ⟨b0, b1, HB⟩ := two_new hb2
      obtain ⟨a0, a1, a2, g0, g1, g2⟩ := ty_cells b0
      obtain ⟨c0, c1, c2, f0, f1, f2⟩ := ty_cells b1
      have H0 := Lib.hid b0
      have H1 := Lib.hid b1
      have HB' := Lib.hid HB
      clear b0 b1 HB hb2 HR
      go_wp2_with fail
      refine (HS _).out.mono ?_
      rintro e w3 ⟨rfl, hb3⟩
      obtain ⟨a0, a1, a2, g0, g1, g2⟩ := ty_cells ((hb3.block w.heap.size (lt_of_heap H0.out)).trans H0.out)
      obtain ⟨c0, c1, c2, f0, f1, f2⟩ := ty_cells ((hb3.block (w.heap.size + 1) (lt_of_heap H1.out)).trans H1.out)
      have HB3 := Lib.hid (HB'.out.trans (hb3.mono HB'.out.size))
      clear hb3 HS
      go_wp2_with fail
      go_ret
      exact ⟨ret_bb hv.out.symm, HB3.out⟩
    · rw [hs] at HS
      have hv : Hid (subB n l m n' l' m' = (n.toList == n'.toList && (l == l' && (bits .andNot .i64 m' m == 0)))) := Lib.hid (by simp [subB, hr, hs])
      clear hr hs
      obtain ⟨t, ht⟩ : ∃ t, (n.toList == n'.toList) = t := ⟨_, rfl⟩
      obtain ⟨u, hu⟩ : ∃ u, (l == l') = u := ⟨_, rfl⟩
      obtain ⟨v, hv'⟩ : ∃ v, (bits .andNot .i64 m' m == 0) = v := ⟨_, rfl⟩
      rw [ht, hu, hv'] at hv
      cases t
      · 
        go_enter Try.func26, Try.ntmps26
        go_wp2_with fail
        refine (HR _).out.mono ?_
        rintro e w2 ⟨rfl, hb2⟩
        obtain ⟨b0, b1, HB⟩ := two_new hb2
        obtain ⟨a0, a1, a2, g0, g1, g2⟩ := ty_cells b0
        obtain ⟨c0, c1, c2, f0, f1, f2⟩ := ty_cells b1
        have H0 := Lib.hid b0
        have H1 := Lib.hid b1
        have HB' := Lib.hid HB
        clear b0 b1 HB hb2 HR
        go_wp2_with fail
        refine (HS _).out.mono ?_
        rintro e w3 ⟨rfl, hb3⟩
        obtain ⟨a0, a1, a2, g0, g1, g2⟩ := ty_cells ((hb3.block w.heap.size (lt_of_heap H0.out)).trans H0.out)
        obtain ⟨c0, c1, c2, f0, f1, f2⟩ := ty_cells ((hb3.block (w.heap.size + 1) (lt_of_heap H1.out)).trans H1.out)
        have HB3 := Lib.hid (HB'.out.trans (hb3.mono HB'.out.size))
        clear hb3 HS
        go_wp2_with fail
        go_ret
        exact ⟨ret_bb hv.out.symm, HB3.out⟩
      · cases u
        · 
          go_enter Try.func26, Try.ntmps26
          go_wp2_with fail
          refine (HR _).out.mono ?_
          rintro e w2 ⟨rfl, hb2⟩
          obtain ⟨b0, b1, HB⟩ := two_new hb2
          obtain ⟨a0, a1, a2, g0, g1, g2⟩ := ty_cells b0
          obtain ⟨c0, c1, c2, f0, f1, f2⟩ := ty_cells b1
          have H0 := Lib.hid b0
          have H1 := Lib.hid b1
          have HB' := Lib.hid HB
          clear b0 b1 HB hb2 HR
          go_wp2_with fail
          refine (HS _).out.mono ?_
          rintro e w3 ⟨rfl, hb3⟩
          obtain ⟨a0, a1, a2, g0, g1, g2⟩ := ty_cells ((hb3.block w.heap.size (lt_of_heap H0.out)).trans H0.out)
          obtain ⟨c0, c1, c2, f0, f1, f2⟩ := ty_cells ((hb3.block (w.heap.size + 1) (lt_of_heap H1.out)).trans H1.out)
          have HB3 := Lib.hid (HB'.out.trans (hb3.mono HB'.out.size))
          clear hb3 HS
          go_wp2_with fail
          go_ret
          exact ⟨ret_bb hv.out.symm, HB3.out⟩
        · cases v
          all_goals
            go_enter Try.func26, Try.ntmps26
            go_wp2_with fail
            refine (HR _).out.mono ?_
            rintro e w2 ⟨rfl, hb2⟩
            obtain ⟨b0, b1, HB⟩ := two_new hb2
            obtain ⟨a0, a1, a2, g0, g1, g2⟩ := ty_cells b0
            obtain ⟨c0, c1, c2, f0, f1, f2⟩ := ty_cells b1
            have H0 := Lib.hid b0
            have H1 := Lib.hid b1
            have HB' := Lib.hid HB
            clear b0 b1 HB hb2 HR
            go_wp2_with fail
            refine (HS _).out.mono ?_
            rintro e w3 ⟨rfl, hb3⟩
            obtain ⟨a0, a1, a2, g0, g1, g2⟩ := ty_cells ((hb3.block w.heap.size (lt_of_heap H0.out)).trans H0.out)
            obtain ⟨c0, c1, c2, f0, f1, f2⟩ := ty_cells ((hb3.block (w.heap.size + 1) (lt_of_heap H1.out)).trans H1.out)
            have HB3 := Lib.hid (HB'.out.trans (hb3.mono HB'.out.size))
            clear hb3 HS
            go_wp2_with fail
            go_ret
            exact ⟨ret_bb hv.out.symm, HB3.out⟩
end Go.Proofs.Ytfinboplkjijhaa
