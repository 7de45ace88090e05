/- The walks of value.number and value.enum. -/
import Derived.Test.YtcdcfhplkimecaaDoorVNumF
import Derived.Test.YtcdcfhplkimecaaDoorVShelf
import Derived.Deep.RegionHeld3
namespace Go.Proofs.YtcdcfhplkimecaaDoor
open Go.RowKit

set_option maxRecDepth 100000 in
theorem vnumber_any (s : ByteArray) (w : World) (hs : s.size ≤ 9000) (hw : Laid5 w) : Calls Tryd.prog 70 #[.string s] w fun e w' => e = .returned (.bool (numB s.data.toList)) ∧ Below w.heap.size w w' := by
  have hN := vnumberf_any s w hs
  by_cases h4 : kindL s.data.toList = 4
  · have hr : Hid (numB s.data.toList = true) := Lib.hid (by unfold numB; rw [h4]; rfl)
    rw [h4] at hN
    have HN := Lib.hid hN
    clear hN h4
    go_enter Tryd.func70, Tryd.ntmps70
    go_wp2_with fail
    refine HN.out.mono ?_
    rintro e w1 ⟨rfl, hb⟩
    have HB := Lib.hid hb
    clear hb
    go_wp2_with fail
    go_ret
    exact ⟨ret_bool hr.out.symm, HB.out⟩
  · by_cases h3 : kindL s.data.toList = 3
    · cases hf : fits64 (intN s.data.toList) with
      | true =>
        have hr : Hid (numB s.data.toList = false) := Lib.hid (by unfold numB; rw [h3, hf]; rfl)
        have HP := fun wx => Lib.hid (parseInt_yes s hs h3 hf wx)
        rw [h3] at hN
        have HN := Lib.hid hN
        clear hN h3 h4 hf
        go_enter Tryd.func70, Tryd.ntmps70
        go_wp2_with fail
        refine HN.out.mono ?_
        rintro e w1 ⟨rfl, hb⟩
        have HB := Lib.hid hb
        clear hb
        go_wp2_with fail
        refine (HP _).out.mono ?_
        rintro e w2 ⟨rfl, hb⟩
        have HB2 := Lib.hid (HB.out.trans (hb.mono HB.out.size))
        clear hb
        go_wp2_with fail
        go_ret
        exact ⟨ret_bool hr.out.symm, HB2.out⟩
      | false =>
        have hr : Hid (numB s.data.toList = true) := Lib.hid (by unfold numB; rw [h3, hf]; rfl)
        have HP := fun wx (hx : Laid5 wx) => Lib.hid (parseInt_no s hs h3 hf wx hx)
        rw [h3] at hN
        have HN := Lib.hid hN
        have HW := Lib.hid hw
        clear hN h3 h4 hf hw
        go_enter Tryd.func70, Tryd.ntmps70
        go_wp2_with fail
        refine HN.out.mono ?_
        rintro e w1 ⟨rfl, hb⟩
        have HB := Lib.hid hb
        clear hb
        go_wp2_with fail
        refine (HP _ (HW.out.below HB.out)).out.mono ?_
        rintro e w2 ⟨⟨z, N, rfl⟩, hb⟩
        have HB2 := Lib.hid (HB.out.trans (hb.mono HB.out.size))
        clear hb
        go_wp2_with fail
        go_ret
        exact ⟨ret_bool hr.out.symm, HB2.out⟩
    · have hr : Hid (numB s.data.toList = false) := Lib.hid (by unfold numB; simp [h3, h4])
      obtain ⟨k, hk⟩ : ∃ k, kindL s.data.toList = k := ⟨_, rfl⟩
      rw [hk] at hN h3 h4
      have g4 : (k == 4) = false := by simpa using h4
      have g3 : (k == 3) = false := by simpa using h3
      have HN := Lib.hid hN
      clear hN h3 h4 hk
      go_enter Tryd.func70, Tryd.ntmps70
      go_wp2_with fail
      refine HN.out.mono ?_
      rintro e w1 ⟨rfl, hb⟩
      have HB := Lib.hid hb
      clear hb
      go_wp2_with fail
      go_ret
      exact ⟨ret_bool hr.out.symm, HB.out⟩
theorem enum_said {s : ByteArray} {b0 b1 b2 b3 : Bool} (h0 : nameB s.data.toList = b0) (h1 : (s.toList == [110, 117, 108, 108]) = b1) (h2 : (s.toList == [116, 114, 117, 101]) = b2) (h3 : (s.toList == [102, 97, 108, 115, 101]) = b3) :
    enumB s.data.toList = (b0 && !b1 && !b2 && !b3) := by
  rw [Lib.toList_data] at h1 h2 h3
  unfold enumB
  rw [h0, ← h1, ← h2, ← h3]
  rfl
set_option maxRecDepth 100000 in
theorem venum_any (s : ByteArray) (w : World) (hs : s.size ≤ 9000) : Calls Tryd.prog 71 #[.string s] w fun e w' => e = .returned (.bool (enumB s.data.toList)) ∧ Below w.heap.size w w' := by
  have hN := fun wx => name_any s wx hs
  obtain ⟨b0, h0⟩ : ∃ b, nameB s.data.toList = b := ⟨_, rfl⟩
  obtain ⟨b1, h1⟩ : ∃ b, (s.toList == [110, 117, 108, 108]) = b := ⟨_, rfl⟩
  obtain ⟨b2, h2⟩ : ∃ b, (s.toList == [116, 114, 117, 101]) = b := ⟨_, rfl⟩
  obtain ⟨b3, h3⟩ : ∃ b, (s.toList == [102, 97, 108, 115, 101]) = b := ⟨_, rfl⟩
  have hr := Lib.hid (enum_said h0 h1 h2 h3)
  rw [h0] at hN
  have HN := fun wx => Lib.hid (hN wx)
  clear hN h0
  cases b0 <;> cases b1 <;> cases b2 <;> cases b3
  all_goals
    go_enter Tryd.func71, Tryd.ntmps71
    go_wp2_with (go_at_call 41; refine (HN _).out.mono ?_; rintro e w1 ⟨rfl, rfl⟩)
    go_ret
    exact ⟨ret_bool (by rw [hr.out]; rfl), Below.refl _ _⟩
end Go.Proofs.YtcdcfhplkimecaaDoor
