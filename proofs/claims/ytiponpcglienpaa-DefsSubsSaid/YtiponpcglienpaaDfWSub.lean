/- The walks of wrap.Sub and of the document's own SubType, without Is. -/
import Derived.Test.YtiponpcglienpaaWParts
namespace Go.Proofs.Ytiponpcglienpaa
open Go.RowKit

/-- What Sub answers. -/
def subB (n : ByteArray) (l m : Int) (n' : ByteArray) (l' m' : Int) : Bool := rightT n.data.toList l m && (rightT n'.data.toList l' m' && (n.toList == n'.toList && (l == l' && (bits .andNot .i64 m' m == 0))))
theorem wlt_of_heap {w : World} {b : Nat} {o : Obj} (h : w.heap[b]? = some o) : b < w.heap.size := (Array.getElem?_eq_some_iff.1 h).1
set_option maxRecDepth 100000 in
set_option maxHeartbeats 2000000 in
theorem wsub_any (n : ByteArray) (l m : Int) (n' : ByteArray) (l' m' : Int) (w : World) (hn : n.size ≤ 9000) (hn' : n'.size ≤ 9000) : Calls Try.prog 33 #[.agg #[.string n, .int .i64 l, .int .i64 m], .agg #[.string n', .int .i64 l', .int .i64 m']] w fun e w' => e = .returned (.bool (subB n l m n' l' m')) ∧ Below w.heap.size w w' := by
  have HR := fun w => Lib.hid (wright_any n l m w hn)
  have HS := fun w => Lib.hid (wright_any n' l' m' w hn')
  cases hr : rightT n.data.toList l m
  · have hv : Hid (subB n l m n' l' m' = false) := Lib.hid (by simp [subB, hr])
    rw [hr] at HR
    clear hr
    go_enter Try.func33, Try.ntmps33
    go_wp2_with fail
    refine (HR _).out.mono ?_
    rintro e w2 ⟨rfl, hb2⟩
    obtain ⟨b0, b1, HB⟩ := wtwo_new hb2
    obtain ⟨a0, a1, a2, g0, g1, g2⟩ := ty_cells b0
    obtain ⟨c0, c1, c2, f0, f1, f2⟩ := ty_cells b1
    have HB' := Lib.hid HB
    clear b0 b1 HB hb2 HR
    go_wp2_with fail
    go_ret
    exact ⟨ret_bb hv.out.symm, HB'.out⟩
  · rw [hr] at HR
    cases hs : rightT n'.data.toList l' m'
    · have hv : Hid (subB n l m n' l' m' = false) := Lib.hid (by simp [subB, hs])
      rw [hs] at HS
      clear hr hs
      go_enter Try.func33, Try.ntmps33
      go_wp2_with fail
      refine (HR _).out.mono ?_
      rintro e w2 ⟨rfl, hb2⟩
      obtain ⟨b0, b1, HB⟩ := wtwo_new hb2
      obtain ⟨a0, a1, a2, g0, g1, g2⟩ := ty_cells b0
      obtain ⟨c0, c1, c2, f0, f1, f2⟩ := ty_cells b1
      have H0 := Lib.hid b0
      have H1 := Lib.hid b1
      have HB' := Lib.hid HB
      clear b0 b1 HB hb2 HR
      go_wp2_with fail
      refine (HS _).out.mono ?_
      rintro e w3 ⟨rfl, hb3⟩
      obtain ⟨a0, a1, a2, g0, g1, g2⟩ := ty_cells ((hb3.block w.heap.size (wlt_of_heap H0.out)).trans H0.out)
      obtain ⟨c0, c1, c2, f0, f1, f2⟩ := ty_cells ((hb3.block (w.heap.size + 1) (wlt_of_heap H1.out)).trans H1.out)
      have HB3 := Lib.hid (HB'.out.trans (hb3.mono HB'.out.size))
      clear hb3 HS
      go_wp2_with fail
      go_ret
      exact ⟨ret_bb hv.out.symm, HB3.out⟩
    · rw [hs] at HS
      have hv : Hid (subB n l m n' l' m' = (n.toList == n'.toList && (l == l' && (bits .andNot .i64 m' m == 0)))) := Lib.hid (by simp [subB, hr, hs])
      clear hr hs
      obtain ⟨t, ht⟩ : ∃ t, (n.toList == n'.toList) = t := ⟨_, rfl⟩
      obtain ⟨u, hu⟩ : ∃ u, (l == l') = u := ⟨_, rfl⟩
      obtain ⟨v, hv'⟩ : ∃ v, (bits .andNot .i64 m' m == 0) = v := ⟨_, rfl⟩
      rw [ht, hu, hv'] at hv
      cases t
      · 
        go_enter Try.func33, Try.ntmps33
        go_wp2_with fail
        refine (HR _).out.mono ?_
        rintro e w2 ⟨rfl, hb2⟩
        obtain ⟨b0, b1, HB⟩ := wtwo_new hb2
        obtain ⟨a0, a1, a2, g0, g1, g2⟩ := ty_cells b0
        obtain ⟨c0, c1, c2, f0, f1, f2⟩ := ty_cells b1
        have H0 := Lib.hid b0
        have H1 := Lib.hid b1
        have HB' := Lib.hid HB
        clear b0 b1 HB hb2 HR
        go_wp2_with fail
        refine (HS _).out.mono ?_
        rintro e w3 ⟨rfl, hb3⟩
        obtain ⟨a0, a1, a2, g0, g1, g2⟩ := ty_cells ((hb3.block w.heap.size (wlt_of_heap H0.out)).trans H0.out)
        obtain ⟨c0, c1, c2, f0, f1, f2⟩ := ty_cells ((hb3.block (w.heap.size + 1) (wlt_of_heap H1.out)).trans H1.out)
        have HB3 := Lib.hid (HB'.out.trans (hb3.mono HB'.out.size))
        clear hb3 HS
        go_wp2_with fail
        go_ret
        exact ⟨ret_bb hv.out.symm, HB3.out⟩
      · cases u
        · 
          go_enter Try.func33, Try.ntmps33
          go_wp2_with fail
          refine (HR _).out.mono ?_
          rintro e w2 ⟨rfl, hb2⟩
          obtain ⟨b0, b1, HB⟩ := wtwo_new hb2
          obtain ⟨a0, a1, a2, g0, g1, g2⟩ := ty_cells b0
          obtain ⟨c0, c1, c2, f0, f1, f2⟩ := ty_cells b1
          have H0 := Lib.hid b0
          have H1 := Lib.hid b1
          have HB' := Lib.hid HB
          clear b0 b1 HB hb2 HR
          go_wp2_with fail
          refine (HS _).out.mono ?_
          rintro e w3 ⟨rfl, hb3⟩
          obtain ⟨a0, a1, a2, g0, g1, g2⟩ := ty_cells ((hb3.block w.heap.size (wlt_of_heap H0.out)).trans H0.out)
          obtain ⟨c0, c1, c2, f0, f1, f2⟩ := ty_cells ((hb3.block (w.heap.size + 1) (wlt_of_heap H1.out)).trans H1.out)
          have HB3 := Lib.hid (HB'.out.trans (hb3.mono HB'.out.size))
          clear hb3 HS
          go_wp2_with fail
          go_ret
          exact ⟨ret_bb hv.out.symm, HB3.out⟩
        · cases v
          all_goals
            go_enter Try.func33, Try.ntmps33
            go_wp2_with fail
            refine (HR _).out.mono ?_
            rintro e w2 ⟨rfl, hb2⟩
            obtain ⟨b0, b1, HB⟩ := wtwo_new hb2
            obtain ⟨a0, a1, a2, g0, g1, g2⟩ := ty_cells b0
            obtain ⟨c0, c1, c2, f0, f1, f2⟩ := ty_cells b1
            have H0 := Lib.hid b0
            have H1 := Lib.hid b1
            have HB' := Lib.hid HB
            clear b0 b1 HB hb2 HR
            go_wp2_with fail
            refine (HS _).out.mono ?_
            rintro e w3 ⟨rfl, hb3⟩
            obtain ⟨a0, a1, a2, g0, g1, g2⟩ := ty_cells ((hb3.block w.heap.size (wlt_of_heap H0.out)).trans H0.out)
            obtain ⟨c0, c1, c2, f0, f1, f2⟩ := ty_cells ((hb3.block (w.heap.size + 1) (wlt_of_heap H1.out)).trans H1.out)
            have HB3 := Lib.hid (HB'.out.trans (hb3.mono HB'.out.size))
            clear hb3 HS
            go_wp2_with fail
            go_ret
            exact ⟨ret_bb hv.out.symm, HB3.out⟩
set_option maxRecDepth 100000 in
set_option maxHeartbeats 2000000 in
theorem wrsub_any (n : ByteArray) (l m : Int) (n' : ByteArray) (l' m' : Int) (w : World) (hn : n.size ≤ 9000) (hn' : n'.size ≤ 9000) : Calls Try.prog 57 #[.agg #[.string n, .int .i64 l, .int .i64 m], .agg #[.string n', .int .i64 l', .int .i64 m']] w fun e w' => e = .returned (.bool (subB n l m n' l' m')) ∧ Below w.heap.size w w' := by
  have HR := fun w => Lib.hid (rtright_any n l m w hn)
  have HS := fun w => Lib.hid (rtright_any n' l' m' w hn')
  cases hr : rightT n.data.toList l m
  · have hv : Hid (subB n l m n' l' m' = false) := Lib.hid (by simp [subB, hr])
    rw [hr] at HR
    clear hr
    go_enter Try.func57, Try.ntmps57
    go_wp2_with fail
    refine (HR _).out.mono ?_
    rintro e w2 ⟨rfl, hb2⟩
    obtain ⟨b0, b1, HB⟩ := wtwo_new hb2
    obtain ⟨a0, a1, a2, g0, g1, g2⟩ := ty_cells b0
    obtain ⟨c0, c1, c2, f0, f1, f2⟩ := ty_cells b1
    have HB' := Lib.hid HB
    clear b0 b1 HB hb2 HR
    go_wp2_with fail
    go_ret
    exact ⟨ret_bb hv.out.symm, HB'.out⟩
  · rw [hr] at HR
    cases hs : rightT n'.data.toList l' m'
    · have hv : Hid (subB n l m n' l' m' = false) := Lib.hid (by simp [subB, hs])
      rw [hs] at HS
      clear hr hs
      go_enter Try.func57, Try.ntmps57
      go_wp2_with fail
      refine (HR _).out.mono ?_
      rintro e w2 ⟨rfl, hb2⟩
      obtain ⟨b0, b1, HB⟩ := wtwo_new hb2
      obtain ⟨a0, a1, a2, g0, g1, g2⟩ := ty_cells b0
      obtain ⟨c0, c1, c2, f0, f1, f2⟩ := ty_cells b1
      have H0 := Lib.hid b0
      have H1 := Lib.hid b1
      have HB' := Lib.hid HB
      clear b0 b1 HB hb2 HR
      go_wp2_with fail
      refine (HS _).out.mono ?_
      rintro e w3 ⟨rfl, hb3⟩
      obtain ⟨a0, a1, a2, g0, g1, g2⟩ := ty_cells ((hb3.block w.heap.size (wlt_of_heap H0.out)).trans H0.out)
      obtain ⟨c0, c1, c2, f0, f1, f2⟩ := ty_cells ((hb3.block (w.heap.size + 1) (wlt_of_heap H1.out)).trans H1.out)
      have HB3 := Lib.hid (HB'.out.trans (hb3.mono HB'.out.size))
      clear hb3 HS
      go_wp2_with fail
      go_ret
      exact ⟨ret_bb hv.out.symm, HB3.out⟩
    · rw [hs] at HS
      have hv : Hid (subB n l m n' l' m' = (n.toList == n'.toList && (l == l' && (bits .andNot .i64 m' m == 0)))) := Lib.hid (by simp [subB, hr, hs])
      clear hr hs
      obtain ⟨t, ht⟩ : ∃ t, (n.toList == n'.toList) = t := ⟨_, rfl⟩
      obtain ⟨u, hu⟩ : ∃ u, (l == l') = u := ⟨_, rfl⟩
      obtain ⟨v, hv'⟩ : ∃ v, (bits .andNot .i64 m' m == 0) = v := ⟨_, rfl⟩
      rw [ht, hu, hv'] at hv
      cases t
      · 
        go_enter Try.func57, Try.ntmps57
        go_wp2_with fail
        refine (HR _).out.mono ?_
        rintro e w2 ⟨rfl, hb2⟩
        obtain ⟨b0, b1, HB⟩ := wtwo_new hb2
        obtain ⟨a0, a1, a2, g0, g1, g2⟩ := ty_cells b0
        obtain ⟨c0, c1, c2, f0, f1, f2⟩ := ty_cells b1
        have H0 := Lib.hid b0
        have H1 := Lib.hid b1
        have HB' := Lib.hid HB
        clear b0 b1 HB hb2 HR
        go_wp2_with fail
        refine (HS _).out.mono ?_
        rintro e w3 ⟨rfl, hb3⟩
        obtain ⟨a0, a1, a2, g0, g1, g2⟩ := ty_cells ((hb3.block w.heap.size (wlt_of_heap H0.out)).trans H0.out)
        obtain ⟨c0, c1, c2, f0, f1, f2⟩ := ty_cells ((hb3.block (w.heap.size + 1) (wlt_of_heap H1.out)).trans H1.out)
        have HB3 := Lib.hid (HB'.out.trans (hb3.mono HB'.out.size))
        clear hb3 HS
        go_wp2_with fail
        go_ret
        exact ⟨ret_bb hv.out.symm, HB3.out⟩
      · cases u
        · 
          go_enter Try.func57, Try.ntmps57
          go_wp2_with fail
          refine (HR _).out.mono ?_
          rintro e w2 ⟨rfl, hb2⟩
          obtain ⟨b0, b1, HB⟩ := wtwo_new hb2
          obtain ⟨a0, a1, a2, g0, g1, g2⟩ := ty_cells b0
          obtain ⟨c0, c1, c2, f0, f1, f2⟩ := ty_cells b1
          have H0 := Lib.hid b0
          have H1 := Lib.hid b1
          have HB' := Lib.hid HB
          clear b0 b1 HB hb2 HR
          go_wp2_with fail
          refine (HS _).out.mono ?_
          rintro e w3 ⟨rfl, hb3⟩
          obtain ⟨a0, a1, a2, g0, g1, g2⟩ := ty_cells ((hb3.block w.heap.size (wlt_of_heap H0.out)).trans H0.out)
          obtain ⟨c0, c1, c2, f0, f1, f2⟩ := ty_cells ((hb3.block (w.heap.size + 1) (wlt_of_heap H1.out)).trans H1.out)
          have HB3 := Lib.hid (HB'.out.trans (hb3.mono HB'.out.size))
          clear hb3 HS
          go_wp2_with fail
          go_ret
          exact ⟨ret_bb hv.out.symm, HB3.out⟩
        · cases v
          all_goals
            go_enter Try.func57, Try.ntmps57
            go_wp2_with fail
            refine (HR _).out.mono ?_
            rintro e w2 ⟨rfl, hb2⟩
            obtain ⟨b0, b1, HB⟩ := wtwo_new hb2
            obtain ⟨a0, a1, a2, g0, g1, g2⟩ := ty_cells b0
            obtain ⟨c0, c1, c2, f0, f1, f2⟩ := ty_cells b1
            have H0 := Lib.hid b0
            have H1 := Lib.hid b1
            have HB' := Lib.hid HB
            clear b0 b1 HB hb2 HR
            go_wp2_with fail
            refine (HS _).out.mono ?_
            rintro e w3 ⟨rfl, hb3⟩
            obtain ⟨a0, a1, a2, g0, g1, g2⟩ := ty_cells ((hb3.block w.heap.size (wlt_of_heap H0.out)).trans H0.out)
            obtain ⟨c0, c1, c2, f0, f1, f2⟩ := ty_cells ((hb3.block (w.heap.size + 1) (wlt_of_heap H1.out)).trans H1.out)
            have HB3 := Lib.hid (HB'.out.trans (hb3.mono HB'.out.size))
            clear hb3 HS
            go_wp2_with fail
            go_ret
            exact ⟨ret_bb hv.out.symm, HB3.out⟩
end Go.Proofs.Ytiponpcglienpaa
