/- The walks of token's digits, fraction, exponent. -/
import Derived.Test.YtcdcfhplkimecaaDoorTStr
namespace Go.Proofs.YtcdcfhplkimecaaDoor
open Go.RowKit

theorem runL_no {l : List UInt8} (h : headB digU l = false) : runL l = 0 := by
  cases l with
  | nil => rfl
  | cons b t => unfold runL; rw [List.takeWhile_cons]; have : digU b = false := h; simp [this]
theorem runL_yes {b : UInt8} {t : List UInt8} (h : digU b = true) : runL (b :: t) = 1 + runL t := by
  unfold runL; rw [List.takeWhile_cons]; simp [h]; omega
theorem runL_size (s : ByteArray) : runL s.data.toList ≤ s.size := by have := runL_le s.data.toList; rwa [len_data] at this

set_option maxRecDepth 100000 in
theorem digits_any (s : ByteArray) (w : World) (hs : s.size ≤ 9000) : Calls Tryd.prog 80 #[.string s] w fun e w' => e = .returned (.int .i64 (runL s.data.toList)) ∧ w = w' := by
  go_enter Tryd.func80, Tryd.ntmps80
  go_wp2
  go_loopg [3] s.size (fun g i wx => ∃ k : Nat, k + g = s.size ∧ i = .int .i64 k ∧ w = wx ∧ Aside (runL s.data.toList = k + runL (s.data.toList.drop k)))
  case atStart => exact ⟨0, by omega, rfl, rfl, Aside.intro (by simp)⟩
  case round =>
    obtain ⟨k, hk, rfl, rfl, H⟩ := hrel
    have hks : (k : Int) ≤ (s.size : Int) := by omega
    have hk0 : (0 : Int) ≤ (k : Int) := by omega
    have hD := tdigit_any (s.extract k s.size) w
    rw [ext_data] at hD
    have HD := Lib.hid hD
    clear hD
    cases hb : headB digU (s.data.toList.drop k)
    · have hr := Lib.hid (H.out.trans (by rw [runL_no hb]))
      have hb' := Lib.hid hb
      clear H hb
      go_wp2_with fail
      refine HD.out.mono ?_
      rintro e w1 ⟨rfl, rfl⟩
      rw [hb'.out]
      go_wp2_with fail
      go_ret
      exact ⟨ret_i (by rw [hr.out]; simp), rfl⟩
    · have hkl : k < s.size := by
        rcases Nat.lt_or_ge k s.size with h | h
        · exact h
        · rw [drop_all s k h] at hb; cases hb
      have hr : Hid (runL s.data.toList = (k + 1 : Nat) + runL (s.data.toList.drop (k + 1))) := Lib.hid (by
        rw [drop_at s k hkl] at hb
        rw [H.out, drop_at s k hkl, runL_yes hb]
        omega)
      have hb' := Lib.hid hb
      clear H hb
      go_wp2_with fail
      refine HD.out.mono ?_
      rintro e w1 ⟨rfl, rfl⟩
      rw [hb'.out]
      go_wp2_with fail
      go_roundg (gk - 1)
      case measure => omega
      case rel => exact ⟨k + 1, by omega, by go_num, rfl, Aside.intro hr.out⟩
end Go.Proofs.YtcdcfhplkimecaaDoor
