/- The walks of value.number and value.enum. -/
import Derived.Test.YtnmidlbhkjcimaaDoorZNum
import Derived.Test.YtnmidlbhkjcimaaDoorZKid
import Derived.Deep.RegionHeld3
import Derived.Test.YtnmidlbhkjcimaaDoorZMath
namespace Go.Proofs.YtnmidlbhkjcimaaDoor
open Go.RowKit

set_option maxRecDepth 100000 in
theorem vnumber_any (s : ByteArray) (w : World) (hs : s.size ≤ 9000) (hw : Laid5 w) : Calls Tryd.prog 56 #[.string s] w fun e w' => e = .returned (.bool (numB s.data.toList)) ∧ Below w.heap.size w w' := by
  have hN := vnumberf_any s w hs
  by_cases h4 : kindL s.data.toList = 4
  · have hr : Hid (numB s.data.toList = true) := Lib.hid (by unfold numB; rw [h4]; rfl)
    rw [h4] at hN
    have HN := Lib.hid hN
    clear hN h4
    go_enter Tryd.func56, Tryd.ntmps56
    go_wp2_with fail
    refine HN.out.mono ?_
    rintro e w1 ⟨rfl, hb⟩
    have HB := Lib.hid hb
    clear hb
    go_wp2_with fail
    go_ret
    exact ⟨ret_bool hr.out.symm, HB.out⟩
  · by_cases h3 : kindL s.data.toList = 3
    · cases hf : fits64 (intN s.data.toList) with
      | true =>
        have hr : Hid (numB s.data.toList = false) := Lib.hid (by unfold numB; rw [h3, hf]; rfl)
        have HP := fun wx => Lib.hid (parseInt_yes s hs h3 hf wx)
        rw [h3] at hN
        have HN := Lib.hid hN
        clear hN h3 h4 hf
        go_enter Tryd.func56, Tryd.ntmps56
        go_wp2_with fail
        refine HN.out.mono ?_
        rintro e w1 ⟨rfl, hb⟩
        have HB := Lib.hid hb
        clear hb
        go_wp2_with fail
        refine (HP _).out.mono ?_
        rintro e w2 ⟨rfl, hb⟩
        have HB2 := Lib.hid (HB.out.trans (hb.mono HB.out.size))
        clear hb
        go_wp2_with fail
        go_ret
        exact ⟨ret_bool hr.out.symm, HB2.out⟩
      | false =>
        have hr : Hid (numB s.data.toList = true) := Lib.hid (by unfold numB; rw [h3, hf]; rfl)
        have HP := fun wx (hx : Laid5 wx) => Lib.hid (parseInt_no s hs h3 hf wx hx)
        rw [h3] at hN
        have HN := Lib.hid hN
        have HW := Lib.hid hw
        clear hN h3 h4 hf hw
        go_enter Tryd.func56, Tryd.ntmps56
        go_wp2_with fail
        refine HN.out.mono ?_
        rintro e w1 ⟨rfl, hb⟩
        have HB := Lib.hid hb
        clear hb
        go_wp2_with fail
        refine (HP _ (HW.out.below HB.out)).out.mono ?_
        rintro e w2 ⟨⟨z, N, rfl⟩, hb⟩
        have HB2 := Lib.hid (HB.out.trans (hb.mono HB.out.size))
        clear hb
        go_wp2_with fail
        go_ret
        exact ⟨ret_bool hr.out.symm, HB2.out⟩
    · have hr : Hid (numB s.data.toList = false) := Lib.hid (by unfold numB; simp [h3, h4])
      obtain ⟨k, hk⟩ : ∃ k, kindL s.data.toList = k := ⟨_, rfl⟩
      rw [hk] at hN h3 h4
      have g4 : (k == 4) = false := by simpa using h4
      have g3 : (k == 3) = false := by simpa using h3
      have HN := Lib.hid hN
      clear hN h3 h4 hk
      go_enter Tryd.func56, Tryd.ntmps56
      go_wp2_with fail
      refine HN.out.mono ?_
      rintro e w1 ⟨rfl, hb⟩
      have HB := Lib.hid hb
      clear hb
      go_wp2_with fail
      go_ret
      exact ⟨ret_bool hr.out.symm, HB.out⟩
theorem enum_said {s : ByteArray} {b0 b1 b2 b3 : Bool} (h0 : nameB s.data.toList = b0) (h1 : (s.toList == [110, 117, 108, 108]) = b1) (h2 : (s.toList == [116, 114, 117, 101]) = b2) (h3 : (s.toList == [102, 97, 108, 115, 101]) = b3) :
    enumB s.data.toList = (b0 && !b1 && !b2 && !b3) := by
  rw [Lib.toList_data] at h1 h2 h3
  unfold enumB
  rw [h0, ← h1, ← h2, ← h3]
  rfl
set_option maxRecDepth 100000 in
theorem venum_any (s : ByteArray) (w : World) (hs : s.size ≤ 9000) : Calls Tryd.prog 57 #[.string s] w fun e w' => e = .returned (.bool (enumB s.data.toList)) ∧ Below w.heap.size w w' := by
  have hN := fun wx => name_any s wx hs
  obtain ⟨b0, h0⟩ : ∃ b, nameB s.data.toList = b := ⟨_, rfl⟩
  obtain ⟨b1, h1⟩ : ∃ b, (s.toList == [110, 117, 108, 108]) = b := ⟨_, rfl⟩
  obtain ⟨b2, h2⟩ : ∃ b, (s.toList == [116, 114, 117, 101]) = b := ⟨_, rfl⟩
  obtain ⟨b3, h3⟩ : ∃ b, (s.toList == [102, 97, 108, 115, 101]) = b := ⟨_, rfl⟩
  have hr := Lib.hid (enum_said h0 h1 h2 h3)
  rw [h0] at hN
  have HN := fun wx => Lib.hid (hN wx)
  clear hN h0
  cases b0 <;> cases b1 <;> cases b2 <;> cases b3
  all_goals
    go_enter Tryd.func57, Tryd.ntmps57
    go_wp2_with (go_at_call 29; refine (HN _).out.mono ?_; rintro e w1 ⟨rfl, rfl⟩)
    go_ret
    exact ⟨ret_bool (by rw [hr.out]; rfl), Below.refl _ _⟩
end Go.Proofs.YtnmidlbhkjcimaaDoor
/- The walks of value.sound and value.named. (gen_sound.py wrote the first.) -/
namespace Go.Proofs.YtnmidlbhkjcimaaDoor
open Go.RowKit

theorem len_zero (n : Nat) : ((n : Int) == 0) = (n == 0) := by
  cases n <;> rfl
set_option maxRecDepth 100000 in
set_option maxHeartbeats 4000000 in
theorem sound_any (k n : Int) (s : ByteArray) (l : VL) (m : VM) (c0 c1 c2 c3 c4 : Value) (w : World) (B : Nat) (hv : VAt w B (.mk k n s l m) c0 c1 c2 c3 c4) (hs : s.size ≤ 9000) (hw : Laid5 w) :
    Calls Tryd.prog 43 #[.agg #[c0, c1, c2, c3, c4]] w fun e w' => e = .returned (.bool (soundB k n s.data.toList l.len m.len)) ∧ Below w.heap.size w w' := by
  unfold VAt at hv
  obtain ⟨rfl, rfl, rfl, _, ⟨A, c, rfl, hl, hL⟩, A', c', rfl, hm, hM⟩ := hv
  have hG := fun wx (hx : Laid5 wx) => good_any s wx hs hx.1
  have hN := fun wx => name_any s wx hs
  have hE := fun wx => venum_any s wx hs
  have hD := fun wx (hx : Laid5 wx) => vnumber_any s wx hs hx
  have hb0 : Below w.heap.size w (w.alloc (.cells #[.int .i64 k, .int .i64 n, .string s, .slice A l.len c, .slice A' m.len c'] 25)) := (Below.refl _ _).alloc (Nat.le_refl _) _
  have HB := Lib.hid hb0
  have HW := Lib.hid (hw.below hb0)
  obtain ⟨b1, h1⟩ : ∃ b, (n == 0) = b := ⟨_, rfl⟩
  obtain ⟨b2, h2⟩ : ∃ b, s.toList.isEmpty = b := ⟨_, rfl⟩
  obtain ⟨b3, h3⟩ : ∃ b, ((l.len : Int) == 0) = b := ⟨_, rfl⟩
  obtain ⟨b4, h4⟩ : ∃ b, ((m.len : Int) == 0) = b := ⟨_, rfl⟩
  obtain ⟨b5, h5⟩ : ∃ b, (n == 1) = b := ⟨_, rfl⟩
  obtain ⟨b6, h6⟩ : ∃ b, numB s.data.toList = b := ⟨_, rfl⟩
  obtain ⟨b7, h7⟩ : ∃ b, goodB s.data.toList = b := ⟨_, rfl⟩
  obtain ⟨b8, h8⟩ : ∃ b, enumB s.data.toList = b := ⟨_, rfl⟩
  obtain ⟨b9, h9⟩ : ∃ b, nameB s.data.toList = b := ⟨_, rfl⟩
  have g2 : s.data.toList.isEmpty = b2 := by rw [← Lib.toList_data]; exact h2
  have g3 := (len_zero l.len).symm.trans h3
  have g4 := (len_zero m.len).symm.trans h4
  rw [h6] at hD
  rw [h7] at hG
  rw [h8] at hE
  rw [h9] at hN
  have G := fun wx hx => Lib.hid (hG wx hx)
  have N := fun wx => Lib.hid (hN wx)
  have E := fun wx => Lib.hid (hE wx)
  have D := fun wx hx => Lib.hid (hD wx hx)
  clear hw hL hM hb0 hG hN hE hD
  by_cases k0 : k = 0
  · subst k0
    have hr : Hid (soundB 0 n s.data.toList l.len m.len = (b1 && b2 && b3 && b4)) := Lib.hid (by rw [soundB, if_pos rfl, h1, g2, g3, g4])
    clear g2 g3 g4 h5 h6 h7 h8 h9
    cases b3 with
    | false =>
      cases b1 with
      | false =>
        go_enter Tryd.func43, Tryd.ntmps43
        go_wp2_with fail
        go_ret
        exact ⟨ret_bool (by rw [hr.out]; simp), HB.out⟩
      | true =>
        cases b2 with
        | false =>
          go_enter Tryd.func43, Tryd.ntmps43
          go_wp2_with fail
          go_ret
          exact ⟨ret_bool (by rw [hr.out]; simp), HB.out⟩
        | true =>
          go_enter Tryd.func43, Tryd.ntmps43
          go_wp2_with fail
          go_ret
          exact ⟨ret_bool (by rw [hr.out]; simp), HB.out⟩
    | true =>
      cases b1 with
      | false =>
        go_enter Tryd.func43, Tryd.ntmps43
        go_wp2_with fail
        go_ret
        exact ⟨ret_bool (by rw [hr.out]; simp), HB.out⟩
      | true =>
        cases b2 with
        | false =>
          go_enter Tryd.func43, Tryd.ntmps43
          go_wp2_with fail
          go_ret
          exact ⟨ret_bool (by rw [hr.out]; simp), HB.out⟩
        | true =>
          go_enter Tryd.func43, Tryd.ntmps43
          go_wp2_with fail
          go_ret
          exact ⟨ret_bool (by rw [hr.out]; simp), HB.out⟩
  by_cases k1 : k = 1
  · subst k1
    have hr : Hid (soundB 1 n s.data.toList l.len m.len = ((b1 || b5) && b2 && b3 && b4)) := Lib.hid (by rw [soundB, if_neg (by omega), if_pos rfl, h1, h5, g2, g3, g4])
    clear g2 g3 g4 h6 h7 h8 h9
    cases b3 with
    | false =>
      cases b1 with
      | false =>
        cases b5 with
        | false =>
          go_enter Tryd.func43, Tryd.ntmps43
          go_wp2_with fail
          go_ret
          exact ⟨ret_bool (by rw [hr.out]; simp), HB.out⟩
        | true =>
          cases b2 with
          | false =>
            go_enter Tryd.func43, Tryd.ntmps43
            go_wp2_with fail
            go_ret
            exact ⟨ret_bool (by rw [hr.out]; simp), HB.out⟩
          | true =>
            go_enter Tryd.func43, Tryd.ntmps43
            go_wp2_with fail
            go_ret
            exact ⟨ret_bool (by rw [hr.out]; simp), HB.out⟩
      | true =>
        cases b2 with
        | false =>
          go_enter Tryd.func43, Tryd.ntmps43
          go_wp2_with fail
          go_ret
          exact ⟨ret_bool (by rw [hr.out]; simp), HB.out⟩
        | true =>
          go_enter Tryd.func43, Tryd.ntmps43
          go_wp2_with fail
          go_ret
          exact ⟨ret_bool (by rw [hr.out]; simp), HB.out⟩
    | true =>
      cases b1 with
      | false =>
        cases b5 with
        | false =>
          go_enter Tryd.func43, Tryd.ntmps43
          go_wp2_with fail
          go_ret
          exact ⟨ret_bool (by rw [hr.out]; simp), HB.out⟩
        | true =>
          cases b2 with
          | false =>
            go_enter Tryd.func43, Tryd.ntmps43
            go_wp2_with fail
            go_ret
            exact ⟨ret_bool (by rw [hr.out]; simp), HB.out⟩
          | true =>
            go_enter Tryd.func43, Tryd.ntmps43
            go_wp2_with fail
            go_ret
            exact ⟨ret_bool (by rw [hr.out]; simp), HB.out⟩
      | true =>
        cases b2 with
        | false =>
          go_enter Tryd.func43, Tryd.ntmps43
          go_wp2_with fail
          go_ret
          exact ⟨ret_bool (by rw [hr.out]; simp), HB.out⟩
        | true =>
          go_enter Tryd.func43, Tryd.ntmps43
          go_wp2_with fail
          go_ret
          exact ⟨ret_bool (by rw [hr.out]; simp), HB.out⟩
  by_cases k2 : k = 2
  · subst k2
    have hr : Hid (soundB 2 n s.data.toList l.len m.len = (b2 && b3 && b4)) := Lib.hid (by rw [soundB, if_neg (by omega), if_neg (by omega), if_pos rfl, g2, g3, g4])
    clear g2 g3 g4 h1 h5 h6 h7 h8 h9
    cases b3 with
    | false =>
      cases b2 with
      | false =>
        go_enter Tryd.func43, Tryd.ntmps43
        go_wp2_with fail
        go_ret
        exact ⟨ret_bool (by rw [hr.out]; simp), HB.out⟩
      | true =>
        go_enter Tryd.func43, Tryd.ntmps43
        go_wp2_with fail
        go_ret
        exact ⟨ret_bool (by rw [hr.out]; simp), HB.out⟩
    | true =>
      cases b2 with
      | false =>
        go_enter Tryd.func43, Tryd.ntmps43
        go_wp2_with fail
        go_ret
        exact ⟨ret_bool (by rw [hr.out]; simp), HB.out⟩
      | true =>
        go_enter Tryd.func43, Tryd.ntmps43
        go_wp2_with fail
        go_ret
        exact ⟨ret_bool (by rw [hr.out]; simp), HB.out⟩
  by_cases k3 : k = 3
  · subst k3
    have hr : Hid (soundB 3 n s.data.toList l.len m.len = (b1 && b6 && b3 && b4)) := Lib.hid (by rw [soundB, if_neg (by omega), if_neg (by omega), if_neg (by omega), if_pos rfl, h1, h6, g3, g4])
    clear g2 g3 g4 h2 h5 h7 h8 h9
    cases b3 with
    | false =>
      cases b1 with
      | false =>
        go_enter Tryd.func43, Tryd.ntmps43
        go_wp2_with (go_at_call 56; refine (D _ HW.out).out.mono ?_; rintro e w1 ⟨rfl, hb1⟩)
        go_ret
        exact ⟨ret_bool (by rw [hr.out]; simp), by first | exact HB.out | exact HB.out.trans (hb1.mono HB.out.size)⟩
      | true =>
        cases b6 with
        | false =>
          go_enter Tryd.func43, Tryd.ntmps43
          go_wp2_with (go_at_call 56; refine (D _ HW.out).out.mono ?_; rintro e w1 ⟨rfl, hb1⟩)
          go_ret
          exact ⟨ret_bool (by rw [hr.out]; simp), by first | exact HB.out | exact HB.out.trans (hb1.mono HB.out.size)⟩
        | true =>
          go_enter Tryd.func43, Tryd.ntmps43
          go_wp2_with (go_at_call 56; refine (D _ HW.out).out.mono ?_; rintro e w1 ⟨rfl, hb1⟩)
          go_ret
          exact ⟨ret_bool (by rw [hr.out]; simp), by first | exact HB.out | exact HB.out.trans (hb1.mono HB.out.size)⟩
    | true =>
      cases b1 with
      | false =>
        go_enter Tryd.func43, Tryd.ntmps43
        go_wp2_with (go_at_call 56; refine (D _ HW.out).out.mono ?_; rintro e w1 ⟨rfl, hb1⟩)
        go_ret
        exact ⟨ret_bool (by rw [hr.out]; simp), by first | exact HB.out | exact HB.out.trans (hb1.mono HB.out.size)⟩
      | true =>
        cases b6 with
        | false =>
          go_enter Tryd.func43, Tryd.ntmps43
          go_wp2_with (go_at_call 56; refine (D _ HW.out).out.mono ?_; rintro e w1 ⟨rfl, hb1⟩)
          go_ret
          exact ⟨ret_bool (by rw [hr.out]; simp), by first | exact HB.out | exact HB.out.trans (hb1.mono HB.out.size)⟩
        | true =>
          go_enter Tryd.func43, Tryd.ntmps43
          go_wp2_with (go_at_call 56; refine (D _ HW.out).out.mono ?_; rintro e w1 ⟨rfl, hb1⟩)
          go_ret
          exact ⟨ret_bool (by rw [hr.out]; simp), by first | exact HB.out | exact HB.out.trans (hb1.mono HB.out.size)⟩
  by_cases k4 : k = 4
  · subst k4
    have hr : Hid (soundB 4 n s.data.toList l.len m.len = (b1 && b7 && b3 && b4)) := Lib.hid (by rw [soundB, if_neg (by omega), if_neg (by omega), if_neg (by omega), if_neg (by omega), if_pos rfl, h1, h7, g3, g4])
    clear g2 g3 g4 h2 h5 h6 h8 h9
    cases b3 with
    | false =>
      cases b1 with
      | false =>
        go_enter Tryd.func43, Tryd.ntmps43
        go_wp2_with (go_at_call 24; refine (G _ HW.out).out.mono ?_; rintro e w1 ⟨rfl, hb1⟩)
        go_ret
        exact ⟨ret_bool (by rw [hr.out]; simp), by first | exact HB.out | exact HB.out.trans (hb1.mono HB.out.size)⟩
      | true =>
        cases b7 with
        | false =>
          go_enter Tryd.func43, Tryd.ntmps43
          go_wp2_with (go_at_call 24; refine (G _ HW.out).out.mono ?_; rintro e w1 ⟨rfl, hb1⟩)
          go_ret
          exact ⟨ret_bool (by rw [hr.out]; simp), by first | exact HB.out | exact HB.out.trans (hb1.mono HB.out.size)⟩
        | true =>
          go_enter Tryd.func43, Tryd.ntmps43
          go_wp2_with (go_at_call 24; refine (G _ HW.out).out.mono ?_; rintro e w1 ⟨rfl, hb1⟩)
          go_ret
          exact ⟨ret_bool (by rw [hr.out]; simp), by first | exact HB.out | exact HB.out.trans (hb1.mono HB.out.size)⟩
    | true =>
      cases b1 with
      | false =>
        go_enter Tryd.func43, Tryd.ntmps43
        go_wp2_with (go_at_call 24; refine (G _ HW.out).out.mono ?_; rintro e w1 ⟨rfl, hb1⟩)
        go_ret
        exact ⟨ret_bool (by rw [hr.out]; simp), by first | exact HB.out | exact HB.out.trans (hb1.mono HB.out.size)⟩
      | true =>
        cases b7 with
        | false =>
          go_enter Tryd.func43, Tryd.ntmps43
          go_wp2_with (go_at_call 24; refine (G _ HW.out).out.mono ?_; rintro e w1 ⟨rfl, hb1⟩)
          go_ret
          exact ⟨ret_bool (by rw [hr.out]; simp), by first | exact HB.out | exact HB.out.trans (hb1.mono HB.out.size)⟩
        | true =>
          go_enter Tryd.func43, Tryd.ntmps43
          go_wp2_with (go_at_call 24; refine (G _ HW.out).out.mono ?_; rintro e w1 ⟨rfl, hb1⟩)
          go_ret
          exact ⟨ret_bool (by rw [hr.out]; simp), by first | exact HB.out | exact HB.out.trans (hb1.mono HB.out.size)⟩
  by_cases k5 : k = 5
  · subst k5
    have hr : Hid (soundB 5 n s.data.toList l.len m.len = (b1 && b8 && b3 && b4)) := Lib.hid (by rw [soundB, if_neg (by omega), if_neg (by omega), if_neg (by omega), if_neg (by omega), if_neg (by omega), if_pos rfl, h1, h8, g3, g4])
    clear g2 g3 g4 h2 h5 h6 h7 h9
    cases b3 with
    | false =>
      cases b1 with
      | false =>
        go_enter Tryd.func43, Tryd.ntmps43
        go_wp2_with (go_at_call 57; refine (E _).out.mono ?_; rintro e w1 ⟨rfl, hb1⟩)
        go_ret
        exact ⟨ret_bool (by rw [hr.out]; simp), by first | exact HB.out | exact HB.out.trans (hb1.mono HB.out.size)⟩
      | true =>
        cases b8 with
        | false =>
          go_enter Tryd.func43, Tryd.ntmps43
          go_wp2_with (go_at_call 57; refine (E _).out.mono ?_; rintro e w1 ⟨rfl, hb1⟩)
          go_ret
          exact ⟨ret_bool (by rw [hr.out]; simp), by first | exact HB.out | exact HB.out.trans (hb1.mono HB.out.size)⟩
        | true =>
          go_enter Tryd.func43, Tryd.ntmps43
          go_wp2_with (go_at_call 57; refine (E _).out.mono ?_; rintro e w1 ⟨rfl, hb1⟩)
          go_ret
          exact ⟨ret_bool (by rw [hr.out]; simp), by first | exact HB.out | exact HB.out.trans (hb1.mono HB.out.size)⟩
    | true =>
      cases b1 with
      | false =>
        go_enter Tryd.func43, Tryd.ntmps43
        go_wp2_with (go_at_call 57; refine (E _).out.mono ?_; rintro e w1 ⟨rfl, hb1⟩)
        go_ret
        exact ⟨ret_bool (by rw [hr.out]; simp), by first | exact HB.out | exact HB.out.trans (hb1.mono HB.out.size)⟩
      | true =>
        cases b8 with
        | false =>
          go_enter Tryd.func43, Tryd.ntmps43
          go_wp2_with (go_at_call 57; refine (E _).out.mono ?_; rintro e w1 ⟨rfl, hb1⟩)
          go_ret
          exact ⟨ret_bool (by rw [hr.out]; simp), by first | exact HB.out | exact HB.out.trans (hb1.mono HB.out.size)⟩
        | true =>
          go_enter Tryd.func43, Tryd.ntmps43
          go_wp2_with (go_at_call 57; refine (E _).out.mono ?_; rintro e w1 ⟨rfl, hb1⟩)
          go_ret
          exact ⟨ret_bool (by rw [hr.out]; simp), by first | exact HB.out | exact HB.out.trans (hb1.mono HB.out.size)⟩
  by_cases k6 : k = 6
  · subst k6
    have hr : Hid (soundB 6 n s.data.toList l.len m.len = (b1 && b2 && b4)) := Lib.hid (by rw [soundB, if_neg (by omega), if_neg (by omega), if_neg (by omega), if_neg (by omega), if_neg (by omega), if_neg (by omega), if_pos rfl, h1, g2, g4])
    clear g2 g3 g4 h5 h6 h7 h8 h9
    cases b3 with
    | false =>
      cases b1 with
      | false =>
        go_enter Tryd.func43, Tryd.ntmps43
        go_wp2_with fail
        go_ret
        exact ⟨ret_bool (by rw [hr.out]; simp), HB.out⟩
      | true =>
        cases b2 with
        | false =>
          go_enter Tryd.func43, Tryd.ntmps43
          go_wp2_with fail
          go_ret
          exact ⟨ret_bool (by rw [hr.out]; simp), HB.out⟩
        | true =>
          go_enter Tryd.func43, Tryd.ntmps43
          go_wp2_with fail
          go_ret
          exact ⟨ret_bool (by rw [hr.out]; simp), HB.out⟩
    | true =>
      cases b1 with
      | false =>
        go_enter Tryd.func43, Tryd.ntmps43
        go_wp2_with fail
        go_ret
        exact ⟨ret_bool (by rw [hr.out]; simp), HB.out⟩
      | true =>
        cases b2 with
        | false =>
          go_enter Tryd.func43, Tryd.ntmps43
          go_wp2_with fail
          go_ret
          exact ⟨ret_bool (by rw [hr.out]; simp), HB.out⟩
        | true =>
          go_enter Tryd.func43, Tryd.ntmps43
          go_wp2_with fail
          go_ret
          exact ⟨ret_bool (by rw [hr.out]; simp), HB.out⟩
  by_cases k7 : k = 7
  · subst k7
    have hr : Hid (soundB 7 n s.data.toList l.len m.len = (b1 && b2 && b3)) := Lib.hid (by rw [soundB, if_neg (by omega), if_neg (by omega), if_neg (by omega), if_neg (by omega), if_neg (by omega), if_neg (by omega), if_neg (by omega), if_pos rfl, h1, g2, g3])
    clear g2 g3 g4 h5 h6 h7 h8 h9
    cases b3 with
    | false =>
      cases b1 with
      | false =>
        go_enter Tryd.func43, Tryd.ntmps43
        go_wp2_with fail
        go_ret
        exact ⟨ret_bool (by rw [hr.out]; simp), HB.out⟩
      | true =>
        cases b2 with
        | false =>
          go_enter Tryd.func43, Tryd.ntmps43
          go_wp2_with fail
          go_ret
          exact ⟨ret_bool (by rw [hr.out]; simp), HB.out⟩
        | true =>
          go_enter Tryd.func43, Tryd.ntmps43
          go_wp2_with fail
          go_ret
          exact ⟨ret_bool (by rw [hr.out]; simp), HB.out⟩
    | true =>
      cases b1 with
      | false =>
        go_enter Tryd.func43, Tryd.ntmps43
        go_wp2_with fail
        go_ret
        exact ⟨ret_bool (by rw [hr.out]; simp), HB.out⟩
      | true =>
        cases b2 with
        | false =>
          go_enter Tryd.func43, Tryd.ntmps43
          go_wp2_with fail
          go_ret
          exact ⟨ret_bool (by rw [hr.out]; simp), HB.out⟩
        | true =>
          go_enter Tryd.func43, Tryd.ntmps43
          go_wp2_with fail
          go_ret
          exact ⟨ret_bool (by rw [hr.out]; simp), HB.out⟩
  by_cases k8 : k = 8
  · subst k8
    have hr : Hid (soundB 8 n s.data.toList l.len m.len = (b1 && b9 && b3 && b4)) := Lib.hid (by rw [soundB, if_neg (by omega), if_neg (by omega), if_neg (by omega), if_neg (by omega), if_neg (by omega), if_neg (by omega), if_neg (by omega), if_neg (by omega), if_pos rfl, h1, h9, g3, g4])
    clear g2 g3 g4 h2 h5 h6 h7 h8
    cases b3 with
    | false =>
      cases b1 with
      | false =>
        go_enter Tryd.func43, Tryd.ntmps43
        go_wp2_with (go_at_call 29; refine (N _).out.mono ?_; rintro e w1 ⟨rfl, rfl⟩)
        go_ret
        exact ⟨ret_bool (by rw [hr.out]; simp), HB.out⟩
      | true =>
        cases b9 with
        | false =>
          go_enter Tryd.func43, Tryd.ntmps43
          go_wp2_with (go_at_call 29; refine (N _).out.mono ?_; rintro e w1 ⟨rfl, rfl⟩)
          go_ret
          exact ⟨ret_bool (by rw [hr.out]; simp), HB.out⟩
        | true =>
          go_enter Tryd.func43, Tryd.ntmps43
          go_wp2_with (go_at_call 29; refine (N _).out.mono ?_; rintro e w1 ⟨rfl, rfl⟩)
          go_ret
          exact ⟨ret_bool (by rw [hr.out]; simp), HB.out⟩
    | true =>
      cases b1 with
      | false =>
        go_enter Tryd.func43, Tryd.ntmps43
        go_wp2_with (go_at_call 29; refine (N _).out.mono ?_; rintro e w1 ⟨rfl, rfl⟩)
        go_ret
        exact ⟨ret_bool (by rw [hr.out]; simp), HB.out⟩
      | true =>
        cases b9 with
        | false =>
          go_enter Tryd.func43, Tryd.ntmps43
          go_wp2_with (go_at_call 29; refine (N _).out.mono ?_; rintro e w1 ⟨rfl, rfl⟩)
          go_ret
          exact ⟨ret_bool (by rw [hr.out]; simp), HB.out⟩
        | true =>
          go_enter Tryd.func43, Tryd.ntmps43
          go_wp2_with (go_at_call 29; refine (N _).out.mono ?_; rintro e w1 ⟨rfl, rfl⟩)
          go_ret
          exact ⟨ret_bool (by rw [hr.out]; simp), HB.out⟩
  have hr : Hid (soundB k n s.data.toList l.len m.len = false) := Lib.hid (by rw [soundB, if_neg k0, if_neg k1, if_neg k2, if_neg k3, if_neg k4, if_neg k5, if_neg k6, if_neg k7, if_neg k8])
  have e0 : (k == 0) = false := by simpa using k0
  have e1 : (k == 1) = false := by simpa using k1
  have e2 : (k == 2) = false := by simpa using k2
  have e3 : (k == 3) = false := by simpa using k3
  have e4 : (k == 4) = false := by simpa using k4
  have e5 : (k == 5) = false := by simpa using k5
  have e6 : (k == 6) = false := by simpa using k6
  have e7 : (k == 7) = false := by simpa using k7
  have e8 : (k == 8) = false := by simpa using k8
  clear g2 g3 g4 h1 h2 h5 h6 h7 h8 h9 k0 k1 k2 k3 k4 k5 k6 k7 k8
  cases b3
  all_goals
    go_enter Tryd.func43, Tryd.ntmps43
    go_wp2_with fail
    go_ret
    exact ⟨ret_bool (by rw [hr.out]), HB.out⟩
end Go.Proofs.YtnmidlbhkjcimaaDoor
/- The walk of value.fits: level by level. -/
namespace Go.Proofs.YtnmidlbhkjcimaaDoor
open Go.RowKit

theorem check_two {p : List UInt8 → Bool} {k n : Int} {s : ByteArray} {l : VL} {m : VM} {b1 b2 : Bool} (h1 : soundB k n s.data.toList l.len m.len = b1) (h2 : namesB p m = b2) : checkV p (.mk k n s l m) = (b1 && b2) := by
  rw [checkV, h1, h2]
/-- append of nothing to a row that is owned. -/
theorem wpList_append_nil {P : Program} {w : World} {ops : Array Oper} {rest : List Oper} {o : Oper} {a : Act} {Q : Exit → Act → World → Prop} (hgd : o.guard = none) (s x : Operand) (t : TypeId)
    (ho : o.op = .call { callee := .builtin .append, args := #[s, x], argTypes := #[t, t] })
    (base : Nat) (e : TypeId) (i : TypeInfo) (size : Nat) (ht : P.underlying t = some (.slice e)) (hi : P.info? e = some i)
    (v : Value) (n c : Nat) (xs : List Value) (hs : a.eval s = v) (hown : w.ownsRow base e size v n xs) (hx : a.eval x = .slice none 0 c)
    (h : wpList P ops Q rest (a.put o.dst v) w) : wpList P ops Q (o :: rest) a w := by
  refine wpList_plain hgd fun K hK => ?_
  have hrun : (Builtin.append_ #[t, t] o.type #[v, .slice none 0 c]).run P w = .ok v w := by
    rcases hown.2 with ⟨rfl, rfl⟩ | ⟨g, cap, cur, rfl, _, _, hnc, _⟩
    · simp [Builtin.append_, run_underlying ht, sizeOf, typeInfo, hi, Builtin.lenOf, Builtin.firstCells]
    · simp [Builtin.append_, run_underlying ht, sizeOf, typeInfo, hi, Builtin.lenOf, Builtin.firstCells, hnc, storeCells]
  unfold Oper.wp
  simp [execOp, ho, resolve, invoke, builtin, hs, hx, hrun, Result.andThen]
  exact hK _ _ h
theorem RowV.none {w : World} {B : Nat} {l : VL} (h : RowV w B l none) : l = .nil := by
  cases l with
  | nil => rfl
  | cons v t => obtain ⟨_, _, _, _, _, _, _, hA, _⟩ := h 0 v rfl; cases hA
theorem RowV.one {w : World} {B b : Nat} {v : VT} {c0 c1 c2 c3 c4 : Value} (hb : b < w.heap.size) (hf : Five w b 0 c0 c1 c2 c3 c4) (hv : VAt w B v c0 c1 c2 c3 c4) : RowV w B (.cons v .nil) (some ⟨b, 0, .none⟩) := fun j x hj => by
  match j, hj with
  | 0, hj =>
    have : v = x := by simpa [VL.get] using hj
    subst this
    exact ⟨b, 0, c0, c1, c2, c3, c4, rfl, hb, by rw [Nat.zero_mul, Nat.add_zero]; exact hf, hv⟩
  | j + 1, hj => simp [VL.get] at hj
theorem level_next {wo wi w4 w5 : World} {B n : Nat} {V : Value} {xs : List Value} (hBo : B ≤ wo.heap.size) (hoi : Below wo.heap.size wo wi) (hi4 : Below wi.heap.size wi w4) (hown : wi.ownsRow wo.heap.size 25 5 V n xs) (hg : w4.grownBy w5 V.ownBlock) :
    Below wo.heap.size wo w5 ∧ Below B wi w5 ∧ Below B w4 w5 := by
  have h1 := hoi.trans (hi4.mono hoi.size)
  have hr : ∀ k, V.ownBlock = some k → wo.heap.size ≤ k := fun k hk => (hown.lt k hk).1
  have hB4 : B ≤ w4.heap.size := Nat.le_trans hBo h1.size
  exact ⟨h1.grown hg h1.size hr, (hi4.mono (Nat.le_trans hBo hoi.size)).grown hg hB4 (fun k hk => Nat.le_trans hBo (hr k hk)), (Below.refl B w4).grown hg hB4 (fun k hk => Nat.le_trans hBo (hr k hk))⟩
theorem five_at_new (w : World) (a0 a1 a2 a3 a4 : Value) (t : TypeId) {n : Nat} (hn : n = w.heap.size) : Five (w.alloc (.cells #[a0, a1, a2, a3, a4] t)) n 0 a0 a1 a2 a3 a4 := by
  subst hn
  exact ⟨by rw [World.cell?_alloc_at _ _ _ _ rfl]; rfl, by rw [World.cell?_alloc_at _ _ _ _ rfl]; rfl, by rw [World.cell?_alloc_at _ _ _ _ rfl]; rfl, by rw [World.cell?_alloc_at _ _ _ _ rfl]; rfl, by rw [World.cell?_alloc_at _ _ _ _ rfl]; rfl⟩
set_option maxRecDepth 100000 in
set_option maxHeartbeats 8000000 in
theorem fits_any (fn : Nat) (p : List UInt8 → Bool) (hp : TestC fn p) (v : VT) (hz : sizeV v ≤ 9000) (c0 c1 c2 c3 c4 : Value) (w : World) (B : Nat) (hB : B ≤ w.heap.size) (hv : VAt w B v c0 c1 c2 c3 c4) (hw : Laid5 w) :
    Calls Tryd.prog 23 #[.agg #[c0, c1, c2, c3, c4], .func (.func fn) #[] #[]] w fun e w' => e = .returned (.bool (fitV p v)) ∧ Below w.heap.size w w' := by
  have HP := Lib.hid hp
  have HB0 := Lib.hid hB
  have HV := Lib.hid hv
  have HW := Lib.hid hw
  have HZ := Lib.hid hz
  have hsz : Hid (sizeV v = sizeL (.cons v .nil)) := Lib.hid (by rw [sizeL, sizeL]; omega)
  obtain ⟨k, n, s, l, m⟩ := v
  generalize hU : VT.mk k n s l m = U at *
  rw [← hU] at hv
  unfold VAt at hv
  obtain ⟨rfl, rfl, rfl, _, ⟨A, c, rfl, hl, hL⟩, A', c', rfl, hm, hM⟩ := hv
  obtain ⟨i0, hi, hz0, hz1, hz2⟩ := info_parts info_val
  clear hL hM hp hB hw hz hU
  go_enter Tryd.func23, Tryd.ntmps23
  go_wp2
  go_step3
  go_wp2_with fail
  go_step3
  go_wp2_with fail
  have hb1 : Below w.heap.size w (w.alloc (.cells #[.int .i64 k, .int .i64 n, .string s, .slice A l.len c, .slice A' m.len c'] 25)) := (Below.refl _ _).alloc (Nat.le_refl _) _
  have HB2 := Lib.hid (hb1.alloc (by simp) (.cells #[.int .i64 k, .int .i64 n, .string s, .slice A l.len c, .slice A' m.len c'] 25))
  have HR2 := Lib.hid (RowV.one (v := U) (by simp) (five_at_new (w.alloc (.cells #[.int .i64 k, .int .i64 n, .string s, .slice A l.len c, .slice A' m.len c'] 25)) _ _ _ _ _ 25 (n := w.heap.size + 1) (by simp)) (VAt.below (HB2.out.mono HB0.out) _ _ _ _ _ _ HV.out))
  clear hb1
  go_loopg [5, 6] (sizeV U) (fun g ft lev wx => ∃ (lv : VL) (Al : Option Addr) (cl : Nat), sizeL lv ≤ g ∧ lev = .slice Al lv.len cl ∧ ft = .bool true ∧ g ≤ 9000 ∧ Below w.heap.size w wx ∧ Aside (RowV wx B lv Al ∧ fitL p lv = fitV p U))
  case atStart => exact ⟨.cons U .nil, _, _, by rw [← hsz.out]; exact Nat.le_refl _, rfl, rfl, HZ.out, HB2.out, vaside ⟨HR2.out, by rw [fitL, fitL]; simp⟩⟩
  case round =>
    obtain ⟨lv, Al, cl, hsl, rfl, rfl, hg9, hb, HA⟩ := hrel
    have HBB := Lib.hid hb
    have HRR := Lib.hid HA.1
    have HFF := Lib.hid HA.2
    have hwr := hb.size
    have hlv := len_size lv
    clear hb HA HB2 HR2
    by_cases h0 : lv.len = 0
    · have hG : Hid (fitV p U = true) := Lib.hid (by rw [← HFF.out, VL.nil_of_len h0]; rfl)
      rw [h0]
      go_wp2_with fail
      simp only [Exit.noGoto_ret]
      go_ret
      exact ⟨ret_bool hG.out.symm, HBB.out⟩
    · have h0' : (0 : Int) < (lv.len : Int) := by omega
      have h0n : 0 < lv.len := by omega
      have hBr := Nat.le_trans HB0.out hwr
      go_wp2_with fail
      go_loopg [5, 7, 17] lv.len (fun g2 ft nxt i wx => ∃ (q : Nat) (xs : List Value), q + g2 = lv.len ∧ i = .int .i64 q ∧ ft = .bool true ∧ wx.ownsRow wr.heap.size 25 5 nxt (kidsTo lv q).len xs ∧ Below wr.heap.size wr wx ∧ Aside (ValsA wx B (kidsTo lv q) xs ∧ checkTo p lv q = true))
      case atStart => exact ⟨0, [], by omega, rfl, rfl, by rw [kidsTo_zero]; exact World.ownsRow_nil _ _ _ _, Below.refl _ _, vaside ⟨by rw [kidsTo_zero]; rfl, checkTo_zero _ _⟩⟩
      case round =>
        obtain ⟨q, xs, hq, rfl, rfl, hown, hb2, HA2⟩ := hrel
        obtain ⟨An, cn, rfl⟩ := shape_own hown
        have HO := Lib.hid hown
        have HX := Lib.hid HA2.1
        have HC := Lib.hid HA2.2
        have HBi := Lib.hid hb2
        have hwx := hb2.size
        have HBw := Lib.hid (HBB.out.trans (hb2.mono hwr))
        have HRx := Lib.hid (HRR.out.below hBr hb2)
        have HWx := Lib.hid (HW.out.below HBw.out)
        clear hown HA2 hb2
        cases gk with
        | zero =>
          obtain rfl : q = lv.len := by omega
          have hO2 := HO.out
          rw [kidsTo_all] at hO2
          obtain ⟨A6, c6, he6, hrow6⟩ := row_owned hO2 (by have h := HX.out; rwa [kidsTo_all] at h)
          have HR6 := Lib.hid hrow6
          have hlev := Lib.hid (size_level lv)
          have hfl := Lib.hid (fit_level p lv)
          have hck : Hid (checkL p lv = true) := Lib.hid (by rw [← checkTo_all]; exact HC.out)
          rw [kidsTo_all, he6]
          clear hO2 hrow6 he6 HO HX
          go_wp2_with fail
          go_roundg (sizeL (kidsL lv))
          case measure => have := hlev.out; omega
          case rel => exact ⟨kidsL lv, A6, c6, Nat.le_refl _, rfl, rfl, by have := hlev.out; omega, HBw.out, vaside ⟨HR6.out, by rw [← HFF.out, hfl.out, hck.out]; simp⟩⟩
        | succ g3 =>
          have hqn : q < lv.len := by omega
          have hqn' : (q : Int) < (lv.len : Int) := by omega
          obtain ⟨x, hx⟩ := VL.get_lt hqn
          have hxs := Nat.le_trans (sizeL_get hx) (Nat.le_trans hsl hg9)
          obtain ⟨b, o, d0, d1, d2, d3, d4, rfl, hblt, hF, hV⟩ := HRx.out q x hx
          have HXS := Lib.hid hxs
          have hnk := Lib.hid (kidsTo_next hx)
          have hnc := Lib.hid (checkTo_next p hx)
          have hno := Lib.hid (check_no p hx)
          have HWI := Lib.hid (within_any x hxs)
          have hxk := Lib.hid (size_kids x)
          have hV0 := Lib.hid hV
          obtain ⟨xk, xn, xs2, xl, xm⟩ := x
          have hxm : Hid (sizeM xm ≤ 9000) := Lib.hid (by rw [sizeV] at hxs; omega)
          have hxz : xs2.size ≤ 9000 := by rw [sizeV] at hxs; omega
          have hct := Lib.hid (fun b1 b2 => check_two (p := p) (k := xk) (n := xn) (s := xs2) (l := xl) (m := xm) (b1 := b1) (b2 := b2))
          unfold VAt at hV
          obtain ⟨rfl, rfl, rfl, _, ⟨A3, c3', rfl, _, _⟩, A4, c4', rfl, hm4, hM4⟩ := hV
          obtain ⟨f0, f1, f2, f3, f4⟩ := hF
          have hnew := Lib.hid ((Below.refl wr.heap.size wr).alloc (Nat.le_refl _) (.cells #[.int .i64 xk, .int .i64 xn, .string xs2, .slice A3 xl.len c3', .slice A4 xm.len c4'] 25))
          have HM4 := Lib.hid hM4
          have hBx := Nat.le_trans hBr hwx
          have HS := Lib.hid (sound_any xk xn xs2 xl xm _ _ _ _ _ _ B (VAt.below (hnew.out.mono hBx) _ _ _ _ _ _ hV0.out) hxz (HWx.out.below hnew.out))
          have hF5 := Lib.hid (five_at_new wr (.int .i64 xk) (.int .i64 xn) (.string xs2) (.slice A3 xl.len c3') (.slice A4 xm.len c4') 25 rfl)
          have hsw : (wr.alloc (.cells #[.int .i64 xk, .int .i64 xn, .string xs2, .slice A3 xl.len c3', .slice A4 xm.len c4'] 25)).heap.size = wr.heap.size + 1 := by simp
          have HSW := Lib.hid hsw
          clear hM4 hx hxs hsw
          cases hs : soundB xk xn xs2.data.toList xl.len xm.len with
          | false =>
            have hr : Hid (fitV p U = false) := Lib.hid (by rw [← HFF.out]; exact hno.out (by rw [checkV, hs]; rfl))
            rw [hs] at HS
            clear hs
            go_wp2_with fail
            refine HS.out.mono ?_
            rintro e w2 ⟨rfl, hb3⟩
            have HB3 := Lib.hid (HBw.out.trans ((hnew.out.trans (hb3.mono (by rw [HSW.out]; omega))).mono HBw.out.size))
            clear hb3
            go_wp2_with fail
            simp only [Exit.noGoto_ret]
            go_ret
            exact ⟨ret_bool hr.out.symm, HB3.out⟩
          | true =>
            rw [hs] at HS
            go_wp2_with fail
            refine HS.out.mono ?_
            rintro e w2 ⟨rfl, hb3⟩
            have hb4 := hnew.out.trans (hb3.mono (by rw [HSW.out]; omega))
            have HB4 := Lib.hid hb4
            have hs2 := hb4.size
            have hF2 := hF5.out.below hb3 (by rw [HSW.out]; omega)
            have HNM := Lib.hid (named_any fn p HP.out xm A4 c4' w2 B (Nat.le_trans hBx hs2) hm4 (MAt.below (hb4.mono hBx) _ _ _ HM4.out) hxm.out (HWx.out.below hb4))
            have hlt2 : wr.heap.size < w2.heap.size := by have := hb3.size; rw [HSW.out] at this; omega
            have hF2' := Lib.hid hF2
            obtain ⟨e0, e1, e2, e3, e4⟩ := hF2
            clear hb3 hb4 HS
            cases hnm : namesB p xm with
            | false =>
              have hr : Hid (fitV p U = false) := Lib.hid (by rw [← HFF.out]; exact hno.out (by rw [hct.out _ _ hs hnm]; rfl))
              rw [hnm] at HNM
              clear hs hnm
              go_wp2_with fail
              refine HNM.out.mono ?_
              rintro e w3 ⟨rfl, hb5⟩
              have HB5 := Lib.hid (HBw.out.trans ((HB4.out.trans (hb5.mono hs2)).mono HBw.out.size))
              clear hb5 e0 e1 e2 e3 e4
              go_wp2_with fail
              simp only [Exit.noGoto_ret]
              go_ret
              exact ⟨ret_bool hr.out.symm, HB5.out⟩
            | true =>
              have hcx : Hid (checkV p (.mk xk xn xs2 xl xm) = true) := Lib.hid (by rw [hct.out _ _ hs hnm]; rfl)
              rw [hnm] at HNM
              clear hs hnm
              go_wp2_with fail
              refine HNM.out.mono ?_
              rintro e w3 ⟨rfl, hb5⟩
              have hb6 := HB4.out.trans (hb5.mono hs2)
              have HB6 := Lib.hid hb6
              have hs3 := hb6.size
              obtain ⟨y0, y1, y2, y3, y4⟩ := hF2'.out.below hb5 hlt2
              clear hb5 hb6 e0 e1 e2 e3 e4 HNM
              go_wp2_with fail
              refine (HWI.out _ _ _ _ _ _ B (Nat.le_trans hBx hs3) (VAt.below (HB6.out.mono hBx) _ _ _ _ _ _ hV0.out)).mono ?_
              rintro e w4 ⟨A5, c5, rfl, hrow, hb7⟩
              have HB7 := Lib.hid (HB6.out.trans (hb7.mono hs3))
              have HR5 := Lib.hid hrow
              clear hrow hb7 y0 y1 y2 y3 y4 f0 f1 f2 f3 f4
              cases A5 with
              | none =>
                have hkn := HR5.out.none
                have hk0 : Hid (kidsTo lv (q + 1) = kidsTo lv q) := Lib.hid (by rw [hnk.out, hkn, VL.app_nil])
                have hkl : (VT.mk xk xn xs2 xl xm).kids.len = 0 := by rw [hkn]; rfl
                rw [hkl]
                have HO4 := Lib.hid (own_low HO.out HB7.out)
                clear hkn hkl
                go_wp2_with (at_builtin; refine wpList_append_nil rfl _ _ 22 rfl _ 25 i0 5 Tryd.underlying22 hi _ _ c5 xs rfl HO4.out rfl ?_)
                go_roundg g3
                case measure => omega
                case rel => exact ⟨q + 1, xs, by omega, by go_num, rfl, by rw [hk0.out]; exact HO4.out, HBi.out.trans (HB7.out.mono hwx), vaside ⟨by rw [hk0.out]; exact ValsA.below (HB7.out.mono hBx) HX.out, by rw [hnc.out, HC.out, hcx.out]; rfl⟩⟩
              | some a =>
                obtain ⟨news, hval, hat⟩ := HR5.out.vals
                have hnl := hval.len
                have hn1 := hval.one
                have hkl : (VT.mk xk xn xs2 xl xm).kids.len ≤ 9000 := by have h0 := HXS.out; have h1 := hxk.out; have h2 := len_size (VT.mk xk xn xs2 xl xm).kids; omega
                have hql : (kidsTo lv q).len ≤ 9000 := by have h3 := Nat.le_trans hsl hg9; have h1 := kidsTo_size lv q; have h2 := len_size (kidsTo lv q); omega
                have HO4 := Lib.hid (own_low HO.out HB7.out)
                have HVN := Lib.hid hval
                have hB4 := Nat.le_trans hBx HB7.out.size
                have hwo := Nat.le_trans hwx HB7.out.size
                clear hval
                go_wp2_with (at_builtin; refine wpList_append_own _ rfl _ _ 22 rfl _ 25 i0 (.agg #[.int .i64 0, .int .i64 0, .string ⟨#[]⟩, .slice none 0 0, .slice none 0 0]) 5 80 Tryd.underlying22 hi hz0 hz1 hz2 rfl (by decide) _ _ xs rfl HO4.out a _ c5 news rfl hnl hat hn1 (by unfold maxLen; omega) (by omega) hwo ?_; intro v5 w5 hown5 hgr5 _; obtain ⟨A8, c8, rfl⟩ := shape_own hown5; have HO5 := Lib.hid hown5; have HG5 := Lib.hid hgr5; clear hown5 hgr5)
                have hbl := Lib.hid (level_next hBr HBi.out HB7.out HO.out HG5.out)
                go_roundg g3
                case measure => omega
                case rel => exact ⟨q + 1, xs ++ news, by omega, by go_num, rfl, by rw [hnk.out, VL.len_app]; exact HO5.out, hbl.out.1, vaside ⟨by rw [hnk.out]; exact (ValsA.below hbl.out.2.1 HX.out).app (ValsA.below hbl.out.2.2 HVN.out), by rw [hnc.out, HC.out, hcx.out]; rfl⟩⟩
end Go.Proofs.YtnmidlbhkjcimaaDoor
/- The walks of value.Good and value.Plain. -/
namespace Go.Proofs.YtnmidlbhkjcimaaDoor
open Go.RowKit

theorem test_good : TestC 24 goodB :=
  ⟨Go.Proofs.enters_of Tryd.func24 (by kernel_rfl) rfl, fun s w hs hw => good_any s w hs hw.1⟩
theorem test_name : TestC 29 nameB :=
  ⟨Go.Proofs.enters_of Tryd.func29 (by kernel_rfl) rfl, fun s w hs _ => (name_any s w hs).mono (by rintro e w' ⟨he, rfl⟩; exact ⟨he, Below.refl _ _⟩)⟩
def plainB (v : VT) : Bool := fitV nameB v && decide (depV v ≤ 16)
set_option maxRecDepth 100000 in
theorem vgood_any (v : VT) (hz : sizeV v ≤ 9000) (c0 c1 c2 c3 c4 : Value) (w : World) (B : Nat) (hB : B ≤ w.heap.size) (hv : VAt w B v c0 c1 c2 c3 c4) (hw : Laid5 w) :
    Calls Tryd.prog 10 #[.agg #[c0, c1, c2, c3, c4]] w fun e w' => e = .returned (.bool (fitV goodB v)) ∧ Below w.heap.size w w' := by
  obtain ⟨k, n, s, l, m⟩ := v
  generalize hU : VT.mk k n s l m = U at *
  have HV := Lib.hid hv
  rw [← hU] at hv
  unfold VAt at hv
  obtain ⟨rfl, rfl, rfl, _, ⟨A, c, rfl, hl, hL⟩, A', c', rfl, hm, hM⟩ := hv
  have hb1 := Lib.hid ((Below.refl w.heap.size w).alloc (Nat.le_refl _) (.cells #[.int .i64 k, .int .i64 n, .string s, .slice A l.len c, .slice A' m.len c'] 25))
  have HF := Lib.hid (fits_any _ _ test_good U hz _ _ _ _ _ _ B (Nat.le_trans hB hb1.out.size) (VAt.below (hb1.out.mono hB) _ _ _ _ _ _ HV.out) (hw.below hb1.out))
  clear hL hM hU hw hz
  go_enter Tryd.func10, Tryd.ntmps10
  go_wp2_with fail
  refine HF.out.mono ?_
  rintro e w2 ⟨rfl, hb2⟩
  have HB2 := Lib.hid (hb1.out.trans (hb2.mono hb1.out.size))
  clear hb2
  go_wp2_with fail
  go_ret
  exact ⟨rfl, HB2.out⟩
set_option maxRecDepth 100000 in
theorem vplain_any (v : VT) (hz : sizeV v ≤ 9000) (c0 c1 c2 c3 c4 : Value) (w : World) (B : Nat) (hB : B ≤ w.heap.size) (hv : VAt w B v c0 c1 c2 c3 c4) (hw : Laid5 w) :
    Calls Tryd.prog 12 #[.agg #[c0, c1, c2, c3, c4]] w fun e w' => e = .returned (.bool (plainB v)) ∧ Below w.heap.size w w' := by
  have hD := depth_any v hz
  obtain ⟨k, n, s, l, m⟩ := v
  generalize hU : VT.mk k n s l m = U at *
  have HV := Lib.hid hv
  rw [← hU] at hv
  unfold VAt at hv
  obtain ⟨rfl, rfl, rfl, _, ⟨A, c, rfl, hl, hL⟩, A', c', rfl, hm, hM⟩ := hv
  have hb1 := Lib.hid ((Below.refl w.heap.size w).alloc (Nat.le_refl _) (.cells #[.int .i64 k, .int .i64 n, .string s, .slice A l.len c, .slice A' m.len c'] 25))
  have HF := Lib.hid (fits_any _ _ test_name U hz _ _ _ _ _ _ B (Nat.le_trans hB hb1.out.size) (VAt.below (hb1.out.mono hB) _ _ _ _ _ _ HV.out) (hw.below hb1.out))
  have HDD := Lib.hid hD
  have HB0 := Lib.hid hB
  have hF5 := Lib.hid (five_at_new w (.int .i64 k) (.int .i64 n) (.string s) (.slice A l.len c) (.slice A' m.len c') 25 rfl)
  have hsw : Hid ((w.alloc (.cells #[.int .i64 k, .int .i64 n, .string s, .slice A l.len c, .slice A' m.len c'] 25)).heap.size = w.heap.size + 1) := Lib.hid (by simp)
  have hpl : Hid (plainB U = (fitV nameB U && decide (depV U ≤ 16))) := Lib.hid rfl
  have hdz := Lib.hid (Nat.le_trans (dep_size U) hz)
  clear hL hM hU hw hz hD hB
  cases hf : fitV nameB U with
  | false =>
    rw [hf] at HF hpl
    clear hf
    go_enter Tryd.func12, Tryd.ntmps12
    go_wp2_with fail
    refine HF.out.mono ?_
    rintro e w2 ⟨rfl, hb2⟩
    have HB2 := Lib.hid (hb1.out.trans (hb2.mono hb1.out.size))
    clear hb2
    go_wp2_with fail
    go_ret
    exact ⟨ret_bool (by rw [hpl.out]; rfl), HB2.out⟩
  | true =>
    rw [hf] at HF hpl
    clear hf
    go_enter Tryd.func12, Tryd.ntmps12
    go_wp2_with fail
    refine HF.out.mono ?_
    rintro e w2 ⟨rfl, hb2⟩
    have hb3 := hb1.out.trans (hb2.mono hb1.out.size)
    have HB2 := Lib.hid hb3
    have hs2 := hb3.size
    obtain ⟨e0, e1, e2, e3, e4⟩ := hF5.out.below hb2 (by rw [hsw.out]; omega)
    clear hb2 hb3
    go_wp2_with fail
    refine (HDD.out _ _ _ _ _ _ B (Nat.le_trans HB0.out hs2) (VAt.below (HB2.out.mono HB0.out) _ _ _ _ _ _ HV.out)).mono ?_
    rintro e w3 ⟨rfl, hb4⟩
    have HB3 := Lib.hid (HB2.out.trans (hb4.mono hs2))
    clear hb4 e0 e1 e2 e3 e4
    obtain ⟨d, hd⟩ : ∃ d, depV U = d := ⟨_, rfl⟩
    rw [hd] at hpl hdz ⊢
    clear hd
    by_cases h16 : d ≤ 16
    · have h16' : (d : Int) ≤ 16 := by omega
      have hr : Hid (plainB U = true) := Lib.hid (by rw [hpl.out]; simpa using h16)
      go_wp2_with fail
      go_ret
      exact ⟨ret_bool (by rw [hr.out]; first | rfl | (simp; done) | (simp; omega) | skip), HB3.out⟩
    · have h16' : ¬ (d : Int) ≤ 16 := by omega
      have hr : Hid (plainB U = false) := Lib.hid (by rw [hpl.out]; simpa using h16)
      go_wp2_with fail
      go_ret
      exact ⟨ret_bool (by rw [hr.out]; first | rfl | (simp; done) | (simp; omega) | skip), HB3.out⟩
end Go.Proofs.YtnmidlbhkjcimaaDoor
/- Rows of tokens that are owned; the walks of word, punct and truth. -/
namespace Go.Proofs.YtnmidlbhkjcimaaDoor
open Go.RowKit

def cellsT : List (Int × ByteArray) → List Value
  | [] => []
  | t :: ts => .int .i64 t.1 :: .string t.2 :: cellsT ts
theorem cellsT_len : ∀ ts, (cellsT ts).length = ts.length * 2
  | [] => rfl
  | t :: ts => by simp only [cellsT, List.length_cons, cellsT_len ts]; omega
theorem cellsT_app : ∀ ts us, cellsT (ts ++ us) = cellsT ts ++ cellsT us
  | [], _ => rfl
  | t :: ts, us => by simp only [List.cons_append, cellsT, cellsT_app ts us]
theorem cellsT_one : ∀ ts u, u ∈ cellsT ts → u.oneCell' = true
  | [], u, h => by simp [cellsT] at h
  | t :: ts, u, h => by
    simp only [cellsT, List.mem_cons] at h
    rcases h with rfl | rfl | h
    · rfl
    · rfl
    · exact cellsT_one ts u h
/-- A row of tokens that is the call's own. -/
def TR (base : Nat) (w : World) (V : Value) (ts : List (Int × ByteArray)) : Prop := w.ownsRow base 41 2 V ts.length (cellsT ts)
theorem TR.low {base : Nat} {w w' : World} {V : Value} {ts : List (Int × ByteArray)} (h : TR base w V ts) (hb : Below w.heap.size w w') : TR base w' V ts := own_low h hb
theorem TR.nil (base : Nat) (w : World) : TR base w (.slice none 0 0) [] := World.ownsRow_nil _ _ _ _
theorem vinfo_tok : (Tryd.prog.info? 41).map (fun i => (i.zero, i.size, i.bytes)) = some (some (.agg #[.int .i64 0, .string ⟨#[]⟩]), 2, 24) := by kernel_rfl
theorem info_parts2 {t : TypeId} {z : Value} {s b : Nat} (h : (Tryd.prog.info? t).map (fun i => (i.zero, i.size, i.bytes)) = some (some z, s, b)) : ∃ i, Tryd.prog.info? t = some i ∧ i.zero = some z ∧ i.size = s ∧ i.bytes = b := by
  cases hi : Tryd.prog.info? t with
  | none => rw [hi] at h; cases h
  | some i => rw [hi] at h; simp at h; exact ⟨i, rfl, h.1, h.2.1, h.2.2⟩
/-- All blocks but that of the row stand; the row's block is the same, or new. -/
def Grew (w w' : World) (V V' : Value) : Prop := w.grownBy w' V.ownBlock ∧ ∀ b, V'.ownBlock = some b → V.ownBlock = some b ∨ w.heap.size ≤ b
theorem Grew.of_below {w w' : World} {V : Value} (h : Below w.heap.size w w') : Grew w w' V V := ⟨⟨h.os, h.tape, h.output, h.size, fun b hb _ => h.block b hb⟩, fun _ hb => .inl hb⟩
theorem Grew.trans {w w1 w2 : World} {V V1 V2 : Value} (h : Grew w w1 V V1) (h' : Grew w1 w2 V1 V2) : Grew w w2 V V2 := by
  obtain ⟨g, o⟩ := h
  obtain ⟨g', o'⟩ := h'
  have hs := g.size
  refine ⟨⟨g'.os.trans g.os, g'.tape.trans g.tape, g'.output.trans g.output, Nat.le_trans hs g'.size, fun b hb hne => ?_⟩, fun b hb => ?_⟩
  · refine (g'.block b (by omega) (fun e => ?_)).trans (g.block b hb hne)
    rcases o b e.symm with h | h
    · exact hne h.symm
    · omega
  · rcases o' b hb with h | h
    · exact o b h
    · exact .inr (Nat.le_trans hs h)
theorem Grew.base {base : Nat} {w w' : World} {V V' : Value} {ts : List (Int × ByteArray)} (h : Grew w w' V V') (hT : TR base w V ts) (hB : base ≤ w.heap.size) : Below base w w' :=
  (Below.refl base w).grown h.1 hB (fun k hk => (hT.lt k hk).1)
theorem Grew.cell {w w' : World} {V V' : Value} {b i : Nat} {x : Value} (h : Grew w w' V V') (hb : b < w.heap.size) (hV : V.ownBlock ≠ some b) (hc : w.cell? ⟨b, i, none⟩ = some x) : w'.cell? ⟨b, i, none⟩ = some x :=
  (World.cell?_of_block (a := ⟨b, i, none⟩) (h.1.block b hb (fun e => hV e.symm))).trans hc
/-- An append of tokens to a row of one's own. -/
theorem wpList_append_tok {w : World} {ops : Array Oper} {rest : List Oper} {o : Oper} {a : Act} {Q : Exit → Act → World → Prop} (hgd : o.guard = none) (s x : Operand)
    (ho : o.op = .call { callee := .builtin .append, args := #[s, x], argTypes := #[29, 29] })
    (base : Nat) (v : Value) (ts : List (Int × ByteArray)) (hs : a.eval s = v) (hown : TR base w v ts) (g m c : Nat) (new : List (Int × ByteArray)) (hx : a.eval x = .slice (some ⟨g, 0, none⟩) m c) (hm : new.length = m)
    (hnew : ∀ (j : Nat) u, (cellsT new)[j]? = some u → w.cell? ((⟨g, 0, none⟩ : Addr).add j) = some u) (hm0 : 0 < m) (hlen : ts.length + m ≤ 200000) (hbase : base ≤ w.heap.size)
    (h : ∀ v' w', TR base w' v' (ts ++ new) → Grew w w' v v' → wpList Tryd.prog ops Q rest (a.put o.dst v') w') : wpList Tryd.prog ops Q (o :: rest) a w := by
  obtain ⟨i0, hi, hz0, hz1, hz2⟩ := info_parts2 vinfo_tok
  refine wpList_append_lies w hgd s x 29 ho base 41 i0 (.agg #[.int .i64 0, .string ⟨#[]⟩]) 2 24 Tryd.underlying29 hi hz0 hz1 hz2 rfl (by decide) v _ _ hs hown ⟨g, 0, none⟩ m c (cellsT new) hx (by rw [cellsT_len, hm]) hnew (cellsT_one _) hm0 (by unfold maxLen; omega) (by omega) hbase _ rfl ?_
  intro g' cap' w' h1 h2 h3 _
  refine h _ w' ?_ ⟨h2, fun b hb => ?_⟩
  · unfold TR
    rw [List.length_append, hm, cellsT_app]
    exact h1
  · have e : g' = b := by
      have : some g' = some b := hb
      injection this
    subst e
    rcases h3 with h3 | h3
    · exact .inl h3
    · exact .inr (by omega)
theorem step_append_tok {w : World} {ops : Array Oper} {o : Oper} {a : Act} {K : Act → World → Prop} {Q : Exit → Act → World → Prop} {E : Prop} (hgd : o.guard = none) (s x : Operand)
    (ho : o.op = .call { callee := .builtin .append, args := #[s, x], argTypes := #[29, 29] })
    (base : Nat) (v : Value) (ts : List (Int × ByteArray)) (hs : a.eval s = v) (hown : TR base w v ts) (g m c : Nat) (new : List (Int × ByteArray)) (hx : a.eval x = .slice (some ⟨g, 0, none⟩) m c) (hm : new.length = m)
    (hnew : ∀ (j : Nat) u, (cellsT new)[j]? = some u → w.cell? ((⟨g, 0, none⟩ : Addr).add j) = some u) (hm0 : 0 < m) (hlen : ts.length + m ≤ 200000) (hbase : base ≤ w.heap.size)
    (h : ∀ v' w', TR base w' v' (ts ++ new) → Grew w w' v v' → K (a.put o.dst v') w') : if Region.wanted o (yielded ops a.tmps) = true then Oper.wp Tryd.prog o a w K Q else E := by
  obtain ⟨i0, hi, hz0, hz1, hz2⟩ := info_parts2 vinfo_tok
  refine step_append_lies w hgd s x 29 ho base 41 i0 (.agg #[.int .i64 0, .string ⟨#[]⟩]) 2 24 Tryd.underlying29 hi hz0 hz1 hz2 rfl (by decide) v _ _ hs hown ⟨g, 0, none⟩ m c (cellsT new) hx (by rw [cellsT_len, hm]) hnew (cellsT_one _) hm0 (by unfold maxLen; omega) (by omega) hbase _ rfl ?_
  intro g' cap' w' h1 h2 h3 _
  refine h _ w' ?_ ⟨h2, fun b hb => ?_⟩
  · unfold TR
    rw [List.length_append, hm, cellsT_app]
    exact h1
  · have e : g' = b := by
      have : some g' = some b := hb
      injection this
    subst e
    rcases h3 with h3 | h3
    · exact .inl h3
    · exact .inr (by omega)
theorem tok_new1 (w : World) (k : Int) (s : ByteArray) (t : TypeId) {g : Nat} (hg : g = w.heap.size) : ∀ (j : Nat) u, (cellsT [(k, s)])[j]? = some u → (w.alloc (.cells #[.int .i64 k, .string s] t)).cell? ((⟨g, 0, none⟩ : Addr).add j) = some u := by
  subst hg
  intro j u hu
  rw [add_at, Nat.zero_add]
  match j, hu with
  | 0, hu => cases hu; rw [World.cell?_alloc_at _ _ _ _ rfl]; rfl
  | 1, hu => cases hu; rw [World.cell?_alloc_at _ _ _ _ rfl]; rfl
theorem tok_new2 (w : World) (k k' : Int) (s s' : ByteArray) (t : TypeId) {g : Nat} (hg : g = w.heap.size) : ∀ (j : Nat) u, (cellsT [(k, s), (k', s')])[j]? = some u → (w.alloc (.cells #[.int .i64 k, .string s, .int .i64 k', .string s'] t)).cell? ((⟨g, 0, none⟩ : Addr).add j) = some u := by
  subst hg
  intro j u hu
  rw [add_at, Nat.zero_add]
  match j, hu with
  | 0, hu => cases hu; rw [World.cell?_alloc_at _ _ _ _ rfl]; rfl
  | 1, hu => cases hu; rw [World.cell?_alloc_at _ _ _ _ rfl]; rfl
  | 2, hu => cases hu; rw [World.cell?_alloc_at _ _ _ _ rfl]; rfl
  | 3, hu => cases hu; rw [World.cell?_alloc_at _ _ _ _ rfl]; rfl
/-- The end of a function that answers a token out of a cell. -/
theorem ret_t1 {R : Ending → World → Prop} {fn : Func} {a : Act} {W : World} {c0 c1 : Value} {p b : Nat} (hf : fn.results = #[.cell p 41]) (h2 : a.tmps.getD p undef = .pointer (some ⟨b, 0, none⟩)) (hd : a.defers = [])
    (hc : W.heap[b]? = some (.cells #[c0, c1] 41 (0, 0))) (hR : R (.returned (.agg #[c0, c1])) W) : bodyPost Tryd.prog fn R .ret a W := by
  have hl : (loadVar 41 ⟨b, 0, none⟩).run Tryd.prog W = .ok (.agg #[c0, c1]) W :=
    run_loadVar_row W b 41 41 #[c0, c1] (0, 0) _ hc Tryd.underlying41 rfl (by kernel_rfl)
  refine bodyPost_ret ?_ hd hR
  have h2' : a.tmps[p]?.getD undef = .pointer (some ⟨b, 0, none⟩) := by rw [← h2]; simp
  simp [results, hf, h2', asAddr, hl]
theorem vword_any (s : ByteArray) (w : World) : Calls Tryd.prog 35 #[.string s] w fun e w' => e = .returned (.agg #[.int .i64 2, .string s]) ∧ Below w.heap.size w w' := by
  go_enter Tryd.func35, Tryd.ntmps35
  go_wp2_with fail
  exact ret_t1 rfl rfl rfl (heap_alloc_new _ _) ⟨rfl, (Below.refl _ _).alloc (Nat.le_refl _) _⟩
theorem vpunct_any (s : ByteArray) (w : World) : Calls Tryd.prog 39 #[.string s] w fun e w' => e = .returned (.agg #[.int .i64 1, .string s]) ∧ Below w.heap.size w w' := by
  go_enter Tryd.func39, Tryd.ntmps39
  go_wp2_with fail
  exact ret_t1 rfl rfl rfl (heap_alloc_new _ _) ⟨rfl, (Below.refl _ _).alloc (Nat.le_refl _) _⟩
theorem two_cells {w : World} {b : Nat} {z0 z1 : Value} {t : TypeId} (h : w.heap[b]? = some (.cells #[z0, z1] t (0, 0))) : w.cell? ⟨b, 0, none⟩ = some z0 ∧ w.cell? ⟨b, 1, none⟩ = some z1 ∧ w.frozen? ⟨b, 0, none⟩ = false ∧ w.frozen? ⟨b, 1, none⟩ = false := by
  refine ⟨?_, ?_, ?_, ?_⟩
  · simp only [World.cell?, h]; rfl
  · simp only [World.cell?, h]; rfl
  · simp [World.frozen?, h]
  · simp [World.frozen?, h]
theorem two_set {w : World} {b : Nat} {z0 z1 v0 v1 : Value} {t : TypeId} (h : w.heap[b]? = some (.cells #[z0, z1] t (0, 0))) : ((w.setCell ⟨b, 0, none⟩ v0).setCell ⟨b, 1, none⟩ v1).heap[b]? = some (.cells #[v0, v1] t (0, 0)) :=
  heap_setCell_same _ b 1 _ _ _ (heap_setCell_same _ b 0 _ _ _ h)
def truthT (n : Int) : ByteArray := if n = 1 then trueT else falseT
set_option maxRecDepth 100000 in
theorem vtruth_any (n : Int) (w : World) : Calls Tryd.prog 36 #[.int .i64 n] w fun e w' => e = .returned (.agg #[.int .i64 2, .string (truthT n)]) ∧ Below w.heap.size w w' := by
  have hb0 := Lib.hid (fun o => (Below.refl w.heap.size w).alloc (Nat.le_refl _) o)
  have hc0 := Lib.hid (heap_alloc_new w (.cells #[.int .i64 0, .string ⟨#[]⟩] 41))
  have hsz : Hid ((w.alloc (.cells #[.int .i64 0, .string ⟨#[]⟩] 41)).heap.size = w.heap.size + 1) := Lib.hid (by simp)
  by_cases h1 : n = 1
  · subst h1
    go_enter Tryd.func36, Tryd.ntmps36
    go_wp2_with fail
    refine (vword_any _ _).mono ?_
    rintro e w2 ⟨rfl, hb⟩
    have hc2 := (hb.block w.heap.size (by rw [hsz.out]; omega)).trans hc0.out
    have HC2 := Lib.hid hc2
    have HB := Lib.hid ((hb0.out _).trans (hb.mono (by rw [hsz.out]; omega)))
    obtain ⟨g0, g1, g2, g3⟩ := two_cells hc2
    clear hb hc2
    go_wp2_with fail
    exact ret_t1 rfl rfl rfl (two_set HC2.out) ⟨rfl, (HB.out.setCell (p := ⟨_, _, none⟩) (Nat.le_refl _) _).setCell (p := ⟨_, _, none⟩) (Nat.le_refl _) _⟩
  · have e1 : (n == 1) = false := by simpa using h1
    have ht : truthT n = falseT := by unfold truthT; rw [if_neg h1]
    rw [ht]
    clear h1 ht
    go_enter Tryd.func36, Tryd.ntmps36
    go_wp2_with fail
    refine (vword_any _ _).mono ?_
    rintro e w2 ⟨rfl, hb⟩
    have hc2 := (hb.block w.heap.size (by rw [hsz.out]; omega)).trans hc0.out
    have HC2 := Lib.hid hc2
    have HB := Lib.hid ((hb0.out _).trans (hb.mono (by rw [hsz.out]; omega)))
    obtain ⟨g0, g1, g2, g3⟩ := two_cells hc2
    clear hb hc2
    go_wp2_with fail
    exact ret_t1 rfl rfl rfl (two_set HC2.out) ⟨rfl, (HB.out.setCell (p := ⟨_, _, none⟩) (Nat.le_refl _) _).setCell (p := ⟨_, _, none⟩) (Nat.le_refl _) _⟩
end Go.Proofs.YtnmidlbhkjcimaaDoor
