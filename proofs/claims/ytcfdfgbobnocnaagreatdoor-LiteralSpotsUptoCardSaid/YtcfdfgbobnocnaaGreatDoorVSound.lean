/- The walks of value.sound and value.named. (gen_sound.py wrote the first.) -/
import Derived.Test.YtcfdfgbobnocnaaGreatDoorVNum
import Derived.Test.YtcfdfgbobnocnaaGreatDoorVTok
namespace Go.Proofs.YtcfdfgbobnocnaaGreatDoor
open Go.RowKit

theorem len_zero (n : Nat) : ((n : Int) == 0) = (n == 0) := by
  cases n <;> rfl
set_option maxRecDepth 100000 in
set_option maxHeartbeats 4000000 in
theorem sound_any (k n : Int) (s : ByteArray) (l : VL) (m : VM) (c0 c1 c2 c3 c4 : Value) (w : World) (B : Nat) (hv : VAt w B (.mk k n s l m) c0 c1 c2 c3 c4) (hs : s.size ≤ 1100000) (hw : Laid5 w) :
    Calls Tryz.prog 64 #[.agg #[c0, c1, c2, c3, c4]] w fun e w' => e = .returned (.bool (soundB k n s.data.toList l.len m.len)) ∧ Below w.heap.size w w' := by
  unfold VAt at hv
  obtain ⟨rfl, rfl, rfl, _, ⟨A, c, rfl, hl, hL⟩, A', c', rfl, hm, hM⟩ := hv
  have hG := fun wx (hx : Laid5 wx) => good_any s wx hs hx.1
  have hN := fun wx => name_any s wx (by omega)
  have hE := fun wx => venum_any s wx hs
  have hD := fun wx (hx : Laid5 wx) => vnumber_any s wx hs hx
  have hb0 : Below w.heap.size w (w.alloc (.cells #[.int .i64 k, .int .i64 n, .string s, .slice A l.len c, .slice A' m.len c'] 30)) := (Below.refl _ _).alloc (Nat.le_refl _) _
  have HB := Lib.hid hb0
  have HW := Lib.hid (hw.below hb0)
  obtain ⟨b1, h1⟩ : ∃ b, (n == 0) = b := ⟨_, rfl⟩
  obtain ⟨b2, h2⟩ : ∃ b, s.toList.isEmpty = b := ⟨_, rfl⟩
  obtain ⟨b3, h3⟩ : ∃ b, ((l.len : Int) == 0) = b := ⟨_, rfl⟩
  obtain ⟨b4, h4⟩ : ∃ b, ((m.len : Int) == 0) = b := ⟨_, rfl⟩
  obtain ⟨b5, h5⟩ : ∃ b, (n == 1) = b := ⟨_, rfl⟩
  obtain ⟨b6, h6⟩ : ∃ b, numB s.data.toList = b := ⟨_, rfl⟩
  obtain ⟨b7, h7⟩ : ∃ b, goodB s.data.toList = b := ⟨_, rfl⟩
  obtain ⟨b8, h8⟩ : ∃ b, enumB s.data.toList = b := ⟨_, rfl⟩
  obtain ⟨b9, h9⟩ : ∃ b, nameB s.data.toList = b := ⟨_, rfl⟩
  have g2 : s.data.toList.isEmpty = b2 := by rw [← Lib.toList_data]; exact h2
  have g3 := (len_zero l.len).symm.trans h3
  have g4 := (len_zero m.len).symm.trans h4
  rw [h6] at hD
  rw [h7] at hG
  rw [h8] at hE
  rw [h9] at hN
  have G := fun wx hx => Lib.hid (hG wx hx)
  have N := fun wx => Lib.hid (hN wx)
  have E := fun wx => Lib.hid (hE wx)
  have D := fun wx hx => Lib.hid (hD wx hx)
  clear hw hL hM hb0 hG hN hE hD
  by_cases k0 : k = 0
  · subst k0
    have hr : Hid (soundB 0 n s.data.toList l.len m.len = (b1 && b2 && b3 && b4)) := Lib.hid (by rw [soundB, if_pos rfl, h1, g2, g3, g4])
    clear g2 g3 g4 h5 h6 h7 h8 h9
    cases b3 with
    | false =>
      cases b1 with
      | false =>
        go_enter Tryz.func64, Tryz.ntmps64
        go_wp2_with fail
        go_ret
        exact ⟨ret_bool (by rw [hr.out]; simp), HB.out⟩
      | true =>
        cases b2 with
        | false =>
          go_enter Tryz.func64, Tryz.ntmps64
          go_wp2_with fail
          go_ret
          exact ⟨ret_bool (by rw [hr.out]; simp), HB.out⟩
        | true =>
          go_enter Tryz.func64, Tryz.ntmps64
          go_wp2_with fail
          go_ret
          exact ⟨ret_bool (by rw [hr.out]; simp), HB.out⟩
    | true =>
      cases b1 with
      | false =>
        go_enter Tryz.func64, Tryz.ntmps64
        go_wp2_with fail
        go_ret
        exact ⟨ret_bool (by rw [hr.out]; simp), HB.out⟩
      | true =>
        cases b2 with
        | false =>
          go_enter Tryz.func64, Tryz.ntmps64
          go_wp2_with fail
          go_ret
          exact ⟨ret_bool (by rw [hr.out]; simp), HB.out⟩
        | true =>
          go_enter Tryz.func64, Tryz.ntmps64
          go_wp2_with fail
          go_ret
          exact ⟨ret_bool (by rw [hr.out]; simp), HB.out⟩
  by_cases k1 : k = 1
  · subst k1
    have hr : Hid (soundB 1 n s.data.toList l.len m.len = ((b1 || b5) && b2 && b3 && b4)) := Lib.hid (by rw [soundB, if_neg (by omega), if_pos rfl, h1, h5, g2, g3, g4])
    clear g2 g3 g4 h6 h7 h8 h9
    cases b3 with
    | false =>
      cases b1 with
      | false =>
        cases b5 with
        | false =>
          go_enter Tryz.func64, Tryz.ntmps64
          go_wp2_with fail
          go_ret
          exact ⟨ret_bool (by rw [hr.out]; simp), HB.out⟩
        | true =>
          cases b2 with
          | false =>
            go_enter Tryz.func64, Tryz.ntmps64
            go_wp2_with fail
            go_ret
            exact ⟨ret_bool (by rw [hr.out]; simp), HB.out⟩
          | true =>
            go_enter Tryz.func64, Tryz.ntmps64
            go_wp2_with fail
            go_ret
            exact ⟨ret_bool (by rw [hr.out]; simp), HB.out⟩
      | true =>
        cases b2 with
        | false =>
          go_enter Tryz.func64, Tryz.ntmps64
          go_wp2_with fail
          go_ret
          exact ⟨ret_bool (by rw [hr.out]; simp), HB.out⟩
        | true =>
          go_enter Tryz.func64, Tryz.ntmps64
          go_wp2_with fail
          go_ret
          exact ⟨ret_bool (by rw [hr.out]; simp), HB.out⟩
    | true =>
      cases b1 with
      | false =>
        cases b5 with
        | false =>
          go_enter Tryz.func64, Tryz.ntmps64
          go_wp2_with fail
          go_ret
          exact ⟨ret_bool (by rw [hr.out]; simp), HB.out⟩
        | true =>
          cases b2 with
          | false =>
            go_enter Tryz.func64, Tryz.ntmps64
            go_wp2_with fail
            go_ret
            exact ⟨ret_bool (by rw [hr.out]; simp), HB.out⟩
          | true =>
            go_enter Tryz.func64, Tryz.ntmps64
            go_wp2_with fail
            go_ret
            exact ⟨ret_bool (by rw [hr.out]; simp), HB.out⟩
      | true =>
        cases b2 with
        | false =>
          go_enter Tryz.func64, Tryz.ntmps64
          go_wp2_with fail
          go_ret
          exact ⟨ret_bool (by rw [hr.out]; simp), HB.out⟩
        | true =>
          go_enter Tryz.func64, Tryz.ntmps64
          go_wp2_with fail
          go_ret
          exact ⟨ret_bool (by rw [hr.out]; simp), HB.out⟩
  by_cases k2 : k = 2
  · subst k2
    have hr : Hid (soundB 2 n s.data.toList l.len m.len = (b2 && b3 && b4)) := Lib.hid (by rw [soundB, if_neg (by omega), if_neg (by omega), if_pos rfl, g2, g3, g4])
    clear g2 g3 g4 h1 h5 h6 h7 h8 h9
    cases b3 with
    | false =>
      cases b2 with
      | false =>
        go_enter Tryz.func64, Tryz.ntmps64
        go_wp2_with fail
        go_ret
        exact ⟨ret_bool (by rw [hr.out]; simp), HB.out⟩
      | true =>
        go_enter Tryz.func64, Tryz.ntmps64
        go_wp2_with fail
        go_ret
        exact ⟨ret_bool (by rw [hr.out]; simp), HB.out⟩
    | true =>
      cases b2 with
      | false =>
        go_enter Tryz.func64, Tryz.ntmps64
        go_wp2_with fail
        go_ret
        exact ⟨ret_bool (by rw [hr.out]; simp), HB.out⟩
      | true =>
        go_enter Tryz.func64, Tryz.ntmps64
        go_wp2_with fail
        go_ret
        exact ⟨ret_bool (by rw [hr.out]; simp), HB.out⟩
  by_cases k3 : k = 3
  · subst k3
    have hr : Hid (soundB 3 n s.data.toList l.len m.len = (b1 && b6 && b3 && b4)) := Lib.hid (by rw [soundB, if_neg (by omega), if_neg (by omega), if_neg (by omega), if_pos rfl, h1, h6, g3, g4])
    clear g2 g3 g4 h2 h5 h7 h8 h9
    cases b3 with
    | false =>
      cases b1 with
      | false =>
        go_enter Tryz.func64, Tryz.ntmps64
        go_wp2_with (go_at_call 78; refine (D _ HW.out).out.mono ?_; rintro e w1 ⟨rfl, hb1⟩)
        go_ret
        exact ⟨ret_bool (by rw [hr.out]; simp), by first | exact HB.out | exact HB.out.trans (hb1.mono HB.out.size)⟩
      | true =>
        cases b6 with
        | false =>
          go_enter Tryz.func64, Tryz.ntmps64
          go_wp2_with (go_at_call 78; refine (D _ HW.out).out.mono ?_; rintro e w1 ⟨rfl, hb1⟩)
          go_ret
          exact ⟨ret_bool (by rw [hr.out]; simp), by first | exact HB.out | exact HB.out.trans (hb1.mono HB.out.size)⟩
        | true =>
          go_enter Tryz.func64, Tryz.ntmps64
          go_wp2_with (go_at_call 78; refine (D _ HW.out).out.mono ?_; rintro e w1 ⟨rfl, hb1⟩)
          go_ret
          exact ⟨ret_bool (by rw [hr.out]; simp), by first | exact HB.out | exact HB.out.trans (hb1.mono HB.out.size)⟩
    | true =>
      cases b1 with
      | false =>
        go_enter Tryz.func64, Tryz.ntmps64
        go_wp2_with (go_at_call 78; refine (D _ HW.out).out.mono ?_; rintro e w1 ⟨rfl, hb1⟩)
        go_ret
        exact ⟨ret_bool (by rw [hr.out]; simp), by first | exact HB.out | exact HB.out.trans (hb1.mono HB.out.size)⟩
      | true =>
        cases b6 with
        | false =>
          go_enter Tryz.func64, Tryz.ntmps64
          go_wp2_with (go_at_call 78; refine (D _ HW.out).out.mono ?_; rintro e w1 ⟨rfl, hb1⟩)
          go_ret
          exact ⟨ret_bool (by rw [hr.out]; simp), by first | exact HB.out | exact HB.out.trans (hb1.mono HB.out.size)⟩
        | true =>
          go_enter Tryz.func64, Tryz.ntmps64
          go_wp2_with (go_at_call 78; refine (D _ HW.out).out.mono ?_; rintro e w1 ⟨rfl, hb1⟩)
          go_ret
          exact ⟨ret_bool (by rw [hr.out]; simp), by first | exact HB.out | exact HB.out.trans (hb1.mono HB.out.size)⟩
  by_cases k4 : k = 4
  · subst k4
    have hr : Hid (soundB 4 n s.data.toList l.len m.len = (b1 && b7 && b3 && b4)) := Lib.hid (by rw [soundB, if_neg (by omega), if_neg (by omega), if_neg (by omega), if_neg (by omega), if_pos rfl, h1, h7, g3, g4])
    clear g2 g3 g4 h2 h5 h6 h8 h9
    cases b3 with
    | false =>
      cases b1 with
      | false =>
        go_enter Tryz.func64, Tryz.ntmps64
        go_wp2_with (go_at_call 49; refine (G _ HW.out).out.mono ?_; rintro e w1 ⟨rfl, hb1⟩)
        go_ret
        exact ⟨ret_bool (by rw [hr.out]; simp), by first | exact HB.out | exact HB.out.trans (hb1.mono HB.out.size)⟩
      | true =>
        cases b7 with
        | false =>
          go_enter Tryz.func64, Tryz.ntmps64
          go_wp2_with (go_at_call 49; refine (G _ HW.out).out.mono ?_; rintro e w1 ⟨rfl, hb1⟩)
          go_ret
          exact ⟨ret_bool (by rw [hr.out]; simp), by first | exact HB.out | exact HB.out.trans (hb1.mono HB.out.size)⟩
        | true =>
          go_enter Tryz.func64, Tryz.ntmps64
          go_wp2_with (go_at_call 49; refine (G _ HW.out).out.mono ?_; rintro e w1 ⟨rfl, hb1⟩)
          go_ret
          exact ⟨ret_bool (by rw [hr.out]; simp), by first | exact HB.out | exact HB.out.trans (hb1.mono HB.out.size)⟩
    | true =>
      cases b1 with
      | false =>
        go_enter Tryz.func64, Tryz.ntmps64
        go_wp2_with (go_at_call 49; refine (G _ HW.out).out.mono ?_; rintro e w1 ⟨rfl, hb1⟩)
        go_ret
        exact ⟨ret_bool (by rw [hr.out]; simp), by first | exact HB.out | exact HB.out.trans (hb1.mono HB.out.size)⟩
      | true =>
        cases b7 with
        | false =>
          go_enter Tryz.func64, Tryz.ntmps64
          go_wp2_with (go_at_call 49; refine (G _ HW.out).out.mono ?_; rintro e w1 ⟨rfl, hb1⟩)
          go_ret
          exact ⟨ret_bool (by rw [hr.out]; simp), by first | exact HB.out | exact HB.out.trans (hb1.mono HB.out.size)⟩
        | true =>
          go_enter Tryz.func64, Tryz.ntmps64
          go_wp2_with (go_at_call 49; refine (G _ HW.out).out.mono ?_; rintro e w1 ⟨rfl, hb1⟩)
          go_ret
          exact ⟨ret_bool (by rw [hr.out]; simp), by first | exact HB.out | exact HB.out.trans (hb1.mono HB.out.size)⟩
  by_cases k5 : k = 5
  · subst k5
    have hr : Hid (soundB 5 n s.data.toList l.len m.len = (b1 && b8 && b3 && b4)) := Lib.hid (by rw [soundB, if_neg (by omega), if_neg (by omega), if_neg (by omega), if_neg (by omega), if_neg (by omega), if_pos rfl, h1, h8, g3, g4])
    clear g2 g3 g4 h2 h5 h6 h7 h9
    cases b3 with
    | false =>
      cases b1 with
      | false =>
        go_enter Tryz.func64, Tryz.ntmps64
        go_wp2_with (go_at_call 79; refine (E _).out.mono ?_; rintro e w1 ⟨rfl, hb1⟩)
        go_ret
        exact ⟨ret_bool (by rw [hr.out]; simp), by first | exact HB.out | exact HB.out.trans (hb1.mono HB.out.size)⟩
      | true =>
        cases b8 with
        | false =>
          go_enter Tryz.func64, Tryz.ntmps64
          go_wp2_with (go_at_call 79; refine (E _).out.mono ?_; rintro e w1 ⟨rfl, hb1⟩)
          go_ret
          exact ⟨ret_bool (by rw [hr.out]; simp), by first | exact HB.out | exact HB.out.trans (hb1.mono HB.out.size)⟩
        | true =>
          go_enter Tryz.func64, Tryz.ntmps64
          go_wp2_with (go_at_call 79; refine (E _).out.mono ?_; rintro e w1 ⟨rfl, hb1⟩)
          go_ret
          exact ⟨ret_bool (by rw [hr.out]; simp), by first | exact HB.out | exact HB.out.trans (hb1.mono HB.out.size)⟩
    | true =>
      cases b1 with
      | false =>
        go_enter Tryz.func64, Tryz.ntmps64
        go_wp2_with (go_at_call 79; refine (E _).out.mono ?_; rintro e w1 ⟨rfl, hb1⟩)
        go_ret
        exact ⟨ret_bool (by rw [hr.out]; simp), by first | exact HB.out | exact HB.out.trans (hb1.mono HB.out.size)⟩
      | true =>
        cases b8 with
        | false =>
          go_enter Tryz.func64, Tryz.ntmps64
          go_wp2_with (go_at_call 79; refine (E _).out.mono ?_; rintro e w1 ⟨rfl, hb1⟩)
          go_ret
          exact ⟨ret_bool (by rw [hr.out]; simp), by first | exact HB.out | exact HB.out.trans (hb1.mono HB.out.size)⟩
        | true =>
          go_enter Tryz.func64, Tryz.ntmps64
          go_wp2_with (go_at_call 79; refine (E _).out.mono ?_; rintro e w1 ⟨rfl, hb1⟩)
          go_ret
          exact ⟨ret_bool (by rw [hr.out]; simp), by first | exact HB.out | exact HB.out.trans (hb1.mono HB.out.size)⟩
  by_cases k6 : k = 6
  · subst k6
    have hr : Hid (soundB 6 n s.data.toList l.len m.len = (b1 && b2 && b4)) := Lib.hid (by rw [soundB, if_neg (by omega), if_neg (by omega), if_neg (by omega), if_neg (by omega), if_neg (by omega), if_neg (by omega), if_pos rfl, h1, g2, g4])
    clear g2 g3 g4 h5 h6 h7 h8 h9
    cases b3 with
    | false =>
      cases b1 with
      | false =>
        go_enter Tryz.func64, Tryz.ntmps64
        go_wp2_with fail
        go_ret
        exact ⟨ret_bool (by rw [hr.out]; simp), HB.out⟩
      | true =>
        cases b2 with
        | false =>
          go_enter Tryz.func64, Tryz.ntmps64
          go_wp2_with fail
          go_ret
          exact ⟨ret_bool (by rw [hr.out]; simp), HB.out⟩
        | true =>
          go_enter Tryz.func64, Tryz.ntmps64
          go_wp2_with fail
          go_ret
          exact ⟨ret_bool (by rw [hr.out]; simp), HB.out⟩
    | true =>
      cases b1 with
      | false =>
        go_enter Tryz.func64, Tryz.ntmps64
        go_wp2_with fail
        go_ret
        exact ⟨ret_bool (by rw [hr.out]; simp), HB.out⟩
      | true =>
        cases b2 with
        | false =>
          go_enter Tryz.func64, Tryz.ntmps64
          go_wp2_with fail
          go_ret
          exact ⟨ret_bool (by rw [hr.out]; simp), HB.out⟩
        | true =>
          go_enter Tryz.func64, Tryz.ntmps64
          go_wp2_with fail
          go_ret
          exact ⟨ret_bool (by rw [hr.out]; simp), HB.out⟩
  by_cases k7 : k = 7
  · subst k7
    have hr : Hid (soundB 7 n s.data.toList l.len m.len = (b1 && b2 && b3)) := Lib.hid (by rw [soundB, if_neg (by omega), if_neg (by omega), if_neg (by omega), if_neg (by omega), if_neg (by omega), if_neg (by omega), if_neg (by omega), if_pos rfl, h1, g2, g3])
    clear g2 g3 g4 h5 h6 h7 h8 h9
    cases b3 with
    | false =>
      cases b1 with
      | false =>
        go_enter Tryz.func64, Tryz.ntmps64
        go_wp2_with fail
        go_ret
        exact ⟨ret_bool (by rw [hr.out]; simp), HB.out⟩
      | true =>
        cases b2 with
        | false =>
          go_enter Tryz.func64, Tryz.ntmps64
          go_wp2_with fail
          go_ret
          exact ⟨ret_bool (by rw [hr.out]; simp), HB.out⟩
        | true =>
          go_enter Tryz.func64, Tryz.ntmps64
          go_wp2_with fail
          go_ret
          exact ⟨ret_bool (by rw [hr.out]; simp), HB.out⟩
    | true =>
      cases b1 with
      | false =>
        go_enter Tryz.func64, Tryz.ntmps64
        go_wp2_with fail
        go_ret
        exact ⟨ret_bool (by rw [hr.out]; simp), HB.out⟩
      | true =>
        cases b2 with
        | false =>
          go_enter Tryz.func64, Tryz.ntmps64
          go_wp2_with fail
          go_ret
          exact ⟨ret_bool (by rw [hr.out]; simp), HB.out⟩
        | true =>
          go_enter Tryz.func64, Tryz.ntmps64
          go_wp2_with fail
          go_ret
          exact ⟨ret_bool (by rw [hr.out]; simp), HB.out⟩
  by_cases k8 : k = 8
  · subst k8
    have hr : Hid (soundB 8 n s.data.toList l.len m.len = (b1 && b9 && b3 && b4)) := Lib.hid (by rw [soundB, if_neg (by omega), if_neg (by omega), if_neg (by omega), if_neg (by omega), if_neg (by omega), if_neg (by omega), if_neg (by omega), if_neg (by omega), if_pos rfl, h1, h9, g3, g4])
    clear g2 g3 g4 h2 h5 h6 h7 h8
    cases b3 with
    | false =>
      cases b1 with
      | false =>
        go_enter Tryz.func64, Tryz.ntmps64
        go_wp2_with (go_at_call 36; refine (N _).out.mono ?_; rintro e w1 ⟨rfl, rfl⟩)
        go_ret
        exact ⟨ret_bool (by rw [hr.out]; simp), HB.out⟩
      | true =>
        cases b9 with
        | false =>
          go_enter Tryz.func64, Tryz.ntmps64
          go_wp2_with (go_at_call 36; refine (N _).out.mono ?_; rintro e w1 ⟨rfl, rfl⟩)
          go_ret
          exact ⟨ret_bool (by rw [hr.out]; simp), HB.out⟩
        | true =>
          go_enter Tryz.func64, Tryz.ntmps64
          go_wp2_with (go_at_call 36; refine (N _).out.mono ?_; rintro e w1 ⟨rfl, rfl⟩)
          go_ret
          exact ⟨ret_bool (by rw [hr.out]; simp), HB.out⟩
    | true =>
      cases b1 with
      | false =>
        go_enter Tryz.func64, Tryz.ntmps64
        go_wp2_with (go_at_call 36; refine (N _).out.mono ?_; rintro e w1 ⟨rfl, rfl⟩)
        go_ret
        exact ⟨ret_bool (by rw [hr.out]; simp), HB.out⟩
      | true =>
        cases b9 with
        | false =>
          go_enter Tryz.func64, Tryz.ntmps64
          go_wp2_with (go_at_call 36; refine (N _).out.mono ?_; rintro e w1 ⟨rfl, rfl⟩)
          go_ret
          exact ⟨ret_bool (by rw [hr.out]; simp), HB.out⟩
        | true =>
          go_enter Tryz.func64, Tryz.ntmps64
          go_wp2_with (go_at_call 36; refine (N _).out.mono ?_; rintro e w1 ⟨rfl, rfl⟩)
          go_ret
          exact ⟨ret_bool (by rw [hr.out]; simp), HB.out⟩
  have hr : Hid (soundB k n s.data.toList l.len m.len = false) := Lib.hid (by rw [soundB, if_neg k0, if_neg k1, if_neg k2, if_neg k3, if_neg k4, if_neg k5, if_neg k6, if_neg k7, if_neg k8])
  have e0 : (k == 0) = false := by simpa using k0
  have e1 : (k == 1) = false := by simpa using k1
  have e2 : (k == 2) = false := by simpa using k2
  have e3 : (k == 3) = false := by simpa using k3
  have e4 : (k == 4) = false := by simpa using k4
  have e5 : (k == 5) = false := by simpa using k5
  have e6 : (k == 6) = false := by simpa using k6
  have e7 : (k == 7) = false := by simpa using k7
  have e8 : (k == 8) = false := by simpa using k8
  clear g2 g3 g4 h1 h2 h5 h6 h7 h8 h9 k0 k1 k2 k3 k4 k5 k6 k7 k8
  cases b3
  all_goals
    go_enter Tryz.func64, Tryz.ntmps64
    go_wp2_with fail
    go_ret
    exact ⟨ret_bool (by rw [hr.out]), HB.out⟩
end Go.Proofs.YtcfdfgbobnocnaaGreatDoor
