/- The walk of the landed Lines: new memory that reads as the lines of the text. -/
import Derived.Test.YtfinboplkjijhaaGreatDoorRLines
namespace Go.Proofs.YtfinboplkjijhaaGreatDoor.Blk
open Go.RowKit

set_option maxRecDepth 100000 in
set_option maxHeartbeats 1000000 in
theorem plines_any (s : ByteArray) (w : World) (hs : s.size ≤ 13000) :
    Calls Tryz.prog 85 #[.string s] w fun e w' => ∃ A cap, e = .returned (.slice A (linesB s.data.toList).length cap) ∧ w'.ownsRow w.heap.size 9 1 (.slice A (linesB s.data.toList).length cap) (linesB s.data.toList).length ((linesB s.data.toList).map Value.string) ∧ Below w.heap.size w w' := by
  obtain ⟨i0, hi, hz0, hz1, hz2⟩ := info_str
  go_enter Tryz.func85, Tryz.ntmps85
  go_wp2
  go_loopg [3, 4, 5] s.size (fun g out fr i wx => ∃ (k f : Nat) (done : List ByteArray), f ≤ k ∧ k + g = s.size ∧ i = .int .i64 k ∧ fr = .int .i64 f ∧ done.length ≤ k ∧ Aside (LinesTo s f k done) ∧ wx.ownsRow w.heap.size 9 1 out done.length (done.map Value.string) ∧ Below w.heap.size w wx)
  case atStart => exact ⟨0, 0, [], by omega, by omega, rfl, rfl, by simp, Aside.intro ⟨by simp, by simp [plainL]⟩, World.ownsRow_nil _ _ _ _, Below.refl _ _⟩
  case round =>
    obtain ⟨k, f, done, hfk, hk, rfl, rfl, hdl, H, hown, hb⟩ := hrel
    obtain ⟨A, cap, rfl⟩ := own_form hown
    have hf0 : (0 : Int) ≤ (f : Int) := by omega
    have hfk' : (f : Int) ≤ (k : Int) := by omega
    have hks : (k : Int) ≤ (s.size : Int) := by omega
    have HB := Lib.hid hb
    have hbs := hb.size
    clear hb
    cases gk with
    | zero =>
      obtain rfl : k = s.size := by omega
      have hdone := Lib.hid (H.out.done)
      clear H
      go_wp2_with (at_builtin; refine wpList_append_own _ rfl _ _ 90 rfl w.heap.size 9 i0 (.string ByteArray.empty) 1 16 Tryz.underlying90 hi hz0 hz1 hz2 rfl (by decide) _ _ _ rfl (hown.alloc _) ⟨wr.heap.size, 0, none⟩ 1 1 [.string (s.extract f s.size)] rfl rfl (cell_one_new _ _ _) (by intro x hx; simp at hx; rcases hx with rfl; rfl) (by unfold maxLen; omega) (by omega) (by simp; omega) ?_; intro v' w3 hown' hgrow _; obtain ⟨A', cap', rfl⟩ := own_form hown'; have HG := Lib.hid hgrow; have HO := Lib.hid hown'; have HW := Lib.hid hown; clear hgrow hown' hown)
      go_ret
      refine ⟨A', cap', ?_, ?_, (HB.out.alloc HB.out.size _).grown HG.out (by simp; omega) (fun q hq => (HW.out.lt q hq).1)⟩
      · rw [hdone.out, List.length_append]; rfl
      · rw [hdone.out, List.map_append, List.length_append]; exact HO.out
    | succ g =>
      have hlt : k < s.size := by omega
      have hlt' : (k : Int) < (s.size : Int) := by omega
      by_cases c10 : s[k] = 10
      · have n10 : ((s[k].toNat : Int) != 10) = false := by rw [c10]; rfl
        have n13 : ((s[k].toNat : Int) == 13) = false := by rw [c10]; rfl
        have hT := Lib.hid (H.out.ten hfk hlt c10)
        clear H c10
        go_wp2_with (at_builtin; refine wpList_append_own _ rfl _ _ 90 rfl w.heap.size 9 i0 (.string ByteArray.empty) 1 16 Tryz.underlying90 hi hz0 hz1 hz2 rfl (by decide) _ _ _ rfl (hown.alloc _) ⟨wr.heap.size, 0, none⟩ 1 1 [.string (s.extract f k)] rfl rfl (cell_one_new _ _ _) (by intro x hx; simp at hx; rcases hx with rfl; rfl) (by unfold maxLen; omega) (by omega) (by simp; omega) ?_; intro v' w3 hown' hgrow _; obtain ⟨A', cap', rfl⟩ := own_form hown'; have HG := Lib.hid hgrow; have HO := Lib.hid hown'; have HW := Lib.hid hown; clear hgrow hown' hown)
        go_roundg g
        case measure => omega
        case rel => exact ⟨k + 1, k + 1, done ++ [s.extract f k], by omega, by omega, by go_num, by go_num, by simp; omega, Aside.intro hT.out, by rw [List.map_append, List.length_append]; exact HO.out, (HB.out.alloc HB.out.size _).grown HG.out (by simp; omega) (fun q hq => (HW.out.lt q hq).1)⟩
      by_cases c13 : s[k] = 13
      · have n10 : ((s[k].toNat : Int) != 10) = true := by rw [c13]; rfl
        have n13 : ((s[k].toNat : Int) != 13) = false := by rw [c13]; rfl
        have m13 : ((s[k].toNat : Int) == 13) = true := by rw [c13]; rfl
        by_cases hk1 : k + 1 < s.size
        · have hk1' : (k : Int) + 1 < (s.size : Int) := by omega
          by_cases d10 : s[k + 1] = 10
          · have m10 : ((s[k + 1].toNat : Int) == 10) = true := by rw [d10]; rfl
            have hT := Lib.hid (H.out.both hfk hk1 c13 d10)
            clear H c10 c13 d10
            go_wp2_with (at_builtin; refine wpList_append_own _ rfl _ _ 90 rfl w.heap.size 9 i0 (.string ByteArray.empty) 1 16 Tryz.underlying90 hi hz0 hz1 hz2 rfl (by decide) _ _ _ rfl (hown.alloc _) ⟨wr.heap.size, 0, none⟩ 1 1 [.string (s.extract f k)] rfl rfl (cell_one_new _ _ _) (by intro x hx; simp at hx; rcases hx with rfl; rfl) (by unfold maxLen; omega) (by omega) (by simp; omega) ?_; intro v' w3 hown' hgrow _; obtain ⟨A', cap', rfl⟩ := own_form hown'; have HG := Lib.hid hgrow; have HO := Lib.hid hown'; have HW := Lib.hid hown; clear hgrow hown' hown)
            go_roundg (s.size - (k + 2))
            case measure => omega
            case rel => exact ⟨k + 2, k + 2, done ++ [s.extract f k], by omega, by omega, by go_num, by go_num, by simp; omega, Aside.intro hT.out, by rw [List.map_append, List.length_append]; exact HO.out, (HB.out.alloc HB.out.size _).grown HG.out (by simp; omega) (fun q hq => (HW.out.lt q hq).1)⟩
          · have m10 : ((s[k + 1].toNat : Int) == 10) = false := beq_ne (ne_lit d10)
            have hT := Lib.hid (H.out.cr hfk hlt c13 (fun _ => d10))
            clear H c10 c13 d10
            go_wp2_with (at_builtin; refine wpList_append_own _ rfl _ _ 90 rfl w.heap.size 9 i0 (.string ByteArray.empty) 1 16 Tryz.underlying90 hi hz0 hz1 hz2 rfl (by decide) _ _ _ rfl (hown.alloc _) ⟨wr.heap.size, 0, none⟩ 1 1 [.string (s.extract f k)] rfl rfl (cell_one_new _ _ _) (by intro x hx; simp at hx; rcases hx with rfl; rfl) (by unfold maxLen; omega) (by omega) (by simp; omega) ?_; intro v' w3 hown' hgrow _; obtain ⟨A', cap', rfl⟩ := own_form hown'; have HG := Lib.hid hgrow; have HO := Lib.hid hown'; have HW := Lib.hid hown; clear hgrow hown' hown)
            go_roundg g
            case measure => omega
            case rel => exact ⟨k + 1, k + 1, done ++ [s.extract f k], by omega, by omega, by go_num, by go_num, by simp; omega, Aside.intro hT.out, by rw [List.map_append, List.length_append]; exact HO.out, (HB.out.alloc HB.out.size _).grown HG.out (by simp; omega) (fun q hq => (HW.out.lt q hq).1)⟩
        · have hk1' : ¬ ((k : Int) + 1 < (s.size : Int)) := by omega
          have hT := Lib.hid (H.out.cr hfk hlt c13 (fun h => absurd h hk1))
          clear H c10 c13
          go_wp2_with (at_builtin; refine wpList_append_own _ rfl _ _ 90 rfl w.heap.size 9 i0 (.string ByteArray.empty) 1 16 Tryz.underlying90 hi hz0 hz1 hz2 rfl (by decide) _ _ _ rfl (hown.alloc _) ⟨wr.heap.size, 0, none⟩ 1 1 [.string (s.extract f k)] rfl rfl (cell_one_new _ _ _) (by intro x hx; simp at hx; rcases hx with rfl; rfl) (by unfold maxLen; omega) (by omega) (by simp; omega) ?_; intro v' w3 hown' hgrow _; obtain ⟨A', cap', rfl⟩ := own_form hown'; have HG := Lib.hid hgrow; have HO := Lib.hid hown'; have HW := Lib.hid hown; clear hgrow hown' hown)
          go_roundg g
          case measure => omega
          case rel => exact ⟨k + 1, k + 1, done ++ [s.extract f k], by omega, by omega, by go_num, by go_num, by simp; omega, Aside.intro hT.out, by rw [List.map_append, List.length_append]; exact HO.out, (HB.out.alloc HB.out.size _).grown HG.out (by simp; omega) (fun q hq => (HW.out.lt q hq).1)⟩
      · have n10 : ((s[k].toNat : Int) != 10) = true := bne_ne (ne_lit c10)
        have n13 : ((s[k].toNat : Int) != 13) = true := bne_ne (ne_lit c13)
        have hT : Hid (LinesTo s f (k + 1) done) := Lib.hid ⟨H.out.1, plain_more hfk hlt H.out.2 (by simp [eolB, c10, c13])⟩
        clear H c10 c13
        go_wp2
        go_roundg g
        case measure => omega
        case rel => exact ⟨k + 1, f, done, by omega, by omega, by go_num, rfl, by omega, Aside.intro hT.out, hown, HB.out⟩

theorem plines (s : ByteArray) (w : World) (hs : s.size ≤ 13000) : Calls Tryz.prog 85 #[.string s] w fun e w' => ∃ A cap, e = .returned (.slice A (linesB s.data.toList).length cap) ∧ StrsAt w' w'.heap.size A (linesB s.data.toList).length (linesB s.data.toList) ∧ Below w.heap.size w w' :=
  (plines_any s w hs).mono fun _ _ ⟨A, cap, he, hown, hb⟩ => ⟨A, cap, he, (strs_of_own hown).2, hb⟩
end Go.Proofs.YtfinboplkjijhaaGreatDoor.Blk
