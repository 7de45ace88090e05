/- The walks of the landed blank and bare. They only read. -/
import Derived.Test.YtfinboplkjijhaaGreatDoorRIndent
import Derived.Outline
namespace Go.Proofs.YtfinboplkjijhaaGreatDoor.Blk
open Go.RowKit

theorem blankB_int (c : UInt8) : blankB c = (((c.toNat : Int) == 9) || ((c.toNat : Int) == 32)) := by
  unfold blankB
  by_cases h9 : c = 9
  · subst h9; rfl
  by_cases h32 : c = 32
  · subst h32; rfl
  have e9 : ((c.toNat : Int) == 9) = false := beq_ne (ne_lit h9)
  have e32 : ((c.toNat : Int) == 32) = false := beq_ne (ne_lit h32)
  rw [e9, e32]
  simp [h9, h32]
theorem pblank_any (c : UInt8) (w : World) : Calls Tryz.prog 99 #[.int .u8 (c.toNat : Int)] w fun e w' => e = .returned (.bool (blankB c)) ∧ w = w' := by
  have H := Lib.hid (blankB_int c)
  by_cases h9 : c = 9
  · subst h9
    go_enter Tryz.func99, Tryz.ntmps99
    go_wp2
    go_ret
    exact ⟨rfl, rfl⟩
  · have n9 : ((c.toNat : Int) == 9) = false := beq_ne (ne_lit h9)
    by_cases h32 : c = 32
    · subst h32
      go_enter Tryz.func99, Tryz.ntmps99
      go_wp2
      go_ret
      exact ⟨rfl, rfl⟩
    · have n32 : ((c.toNat : Int) == 32) = false := beq_ne (ne_lit h32)
      have hf : Hid (blankB c = false) := Lib.hid (by rw [H.out, n9, n32]; rfl)
      go_enter Tryz.func99, Tryz.ntmps99
      go_wp2
      go_ret
      exact ⟨ret_bool hf.out.symm, rfl⟩

set_option maxRecDepth 100000 in
theorem pbare_any (s : ByteArray) (w : World) (hs : s.size ≤ 100000) : Calls Tryz.prog 87 #[.string s] w fun e w' => e = .returned (.bool (!inkB s.data.toList)) ∧ w = w' := by
  have HL : Hid (s.data.toList.length = s.size) := Lib.hid Array.length_toList
  go_enter Tryz.func87, Tryz.ntmps87
  go_wp2_with fail
  go_loopg [6] s.size (fun g i wx => ∃ k : Nat, k + g = s.size ∧ i = .int .i64 k ∧ Aside ((s.data.toList.take k).all blankB = true) ∧ w = wx)
  case atStart => exact ⟨0, by omega, rfl, Aside.intro (by simp), rfl⟩
  case round =>
    obtain ⟨k, hk, rfl, H, rfl⟩ := hrel
    cases gk with
    | zero =>
      obtain rfl : k = s.size := by omega
      have he := H.out
      rw [List.take_of_length_le (by rw [HL.out]; omega)] at he
      have h2 := Lib.hid (lead_end he).2
      clear he H
      go_wp2_with fail
      go_ret
      exact ⟨ret_bool (by rw [h2.out]; rfl), rfl⟩
    | succ g =>
      have hlt : k < s.size := by omega
      have hlt' : (k : Int) < (s.size : Int) := by omega
      have HB := Lib.hid (fun w => pblank_any s[k] w)
      cases hb : blankB s[k]
      · have hT := Lib.hid (lead_at H.out (by rw [List.getElem?_eq_getElem (by rw [HL.out]; exact hlt)]; rfl) hb).2
        have hB := Lib.hid hb
        clear H hb
        go_wp2_with fail
        refine (HB.out _).mono ?_
        rintro e w1 ⟨rfl, rfl⟩
        rw [hB.out]
        go_wp2_with fail
        go_ret
        exact ⟨ret_bool (by rw [hT.out]; rfl), rfl⟩
      · have hT := Lib.hid (blank_more hlt H.out hb)
        have hB := Lib.hid hb
        clear H hb
        go_wp2_with fail
        refine (HB.out _).mono ?_
        rintro e w1 ⟨rfl, rfl⟩
        rw [hB.out]
        go_wp2_with fail
        go_roundg g
        case measure => omega
        case rel => exact ⟨k + 1, by omega, by go_num, Aside.intro hT.out, rfl⟩
end Go.Proofs.YtfinboplkjijhaaGreatDoor.Blk
