/- The walks of the small tests of letters and of the document's own answer: letter, digit, half, pair, start. Each answers a plain test of its number and leaves the world as it was. -/
import Derived.Test.YtmamgaifpjgfkaaChecked
import Derived.Test.YtmamgaifpjgfkaaMath
import Derived.WalkKit
import Derived.Deep.LoopGhost
namespace Go.Proofs.Ytmamgaifpjgfkaa
open Go.RowKit

theorem Aside.intro {p : Prop} (h : p) : Aside p := h
theorem ret_bool {a b : Bool} (h : a = b) : Ending.returned (.bool a) = .returned (.bool b) := by rw [h]
theorem ret_boolw {a b : Bool} {w : World} (h : a = true ↔ b = true) : Ending.returned (.bool a) = .returned (.bool b) ∧ w = w := by rw [Bool.eq_iff_iff.2 h]; exact ⟨rfl, rfl⟩

theorem letter_any (c : Int) (w : World) : Calls Try.prog 64 #[.int .u8 c] w fun e w' => e = .returned (.bool (letB c)) ∧ w = w' := by
  go_enter Try.func64, Try.ntmps64
  go_wp2
  all_goals go_ret
  all_goals (refine ret_boolw ?_; simp [letB]; try omega)
theorem digit_any (c : Int) (w : World) : Calls Try.prog 65 #[.int .u8 c] w fun e w' => e = .returned (.bool (digB c)) ∧ w = w' := by
  go_enter Try.func65, Try.ntmps65
  go_wp2
  all_goals go_ret
  all_goals (refine ret_boolw ?_; simp [digB]; try omega)
/-- The name's walk. -/
theorem name_any (s : ByteArray) (w : World) (hs : s.size ≤ 9000) : Calls Try.prog 61 #[.string s] w fun e w' => e = .returned (.bool (nameB s.data.toList)) ∧ w = w' := by
  go_enter Try.func61, Try.ntmps61
  go_wp2
  go_loop [6] (fun i => ∃ k : Nat, k ≤ s.size ∧ i = .int .i64 k ∧ nameTo s k) (fun i => s.size - (intOf i).toNat)
  case atStart => exact ⟨0, Nat.zero_le _, rfl, .inl rfl⟩
  case round =>
    obtain ⟨k, hk, rfl, H⟩ := hrel
    by_cases hlt : k < s.size
    · cases hl : letB (s[k].toNat : Int)
      · by_cases h0 : k = 0
        · have hst := Aside.intro (name_stop0 (s := s) (by omega) (by subst h0; exact hl))
          have e0 : ((k : Int) == 0) = true := by simp [h0]
          clear h0 H
          go_wp2_with (first
            | (go_at_call 64; refine (letter_any _ _).mono ?_; rintro e w' ⟨rfl, rfl⟩)
            | (go_at_call 65; refine (digit_any _ _).mono ?_; rintro e w' ⟨rfl, rfl⟩))
          go_ret
          exact ⟨ret_bool hst.out.symm, rfl⟩
        · have e0 : ((k : Int) == 0) = false := by simp [h0]
          cases hd : digB (s[k].toNat : Int)
          · have hst := Aside.intro (name_stop (s := s) hlt h0 hl hd)
            clear h0 H
            go_wp2_with (first
              | (go_at_call 64; refine (letter_any _ _).mono ?_; rintro e w' ⟨rfl, rfl⟩)
              | (go_at_call 65; refine (digit_any _ _).mono ?_; rintro e w' ⟨rfl, rfl⟩))
            go_ret
            exact ⟨ret_bool hst.out.symm, rfl⟩
          · have hst := Aside.intro (nameTo_digit (s := s) hlt h0 H hd)
            clear h0 H
            go_wp2_with (first
              | (go_at_call 64; refine (letter_any _ _).mono ?_; rintro e w' ⟨rfl, rfl⟩)
              | (go_at_call 65; refine (digit_any _ _).mono ?_; rintro e w' ⟨rfl, rfl⟩))
            go_round
            case rel => exact ⟨k + 1, by omega, by go_num, hst.out⟩
            case measure => simp [intOf]; omega
      · have hst := Aside.intro (nameTo_letter (s := s) hlt H hl)
        clear H
        go_wp2_with (first
          | (go_at_call 64; refine (letter_any _ _).mono ?_; rintro e w' ⟨rfl, rfl⟩)
          | (go_at_call 65; refine (digit_any _ _).mono ?_; rintro e w' ⟨rfl, rfl⟩))
        go_round
        case rel => exact ⟨k + 1, by omega, by go_num, hst.out⟩
        case measure => simp [intOf]; omega
    · obtain rfl : k = s.size := by omega
      have hst := Aside.intro (name_done H)
      clear H hk
      go_wp2
      go_ret
      exact ⟨ret_bool hst.out.symm, rfl⟩
end Go.Proofs.Ytmamgaifpjgfkaa
