/- The page's example, as the laws of layer 4 ask it. -/
import Derived.Test.YtfinboplkjijhaaWRef
namespace Go.Proofs.Ytfinboplkjijhaa
open Go.RowKit

theorem chain {w w1 w2 : World} (h1 : Below w.heap.size w w1) (h2 : Below w1.heap.size w1 w2) : Below w.heap.size w w2 := h1.trans (h2.mono h1.size)
theorem awake_print (w : World) : Calls Try.prog 9 #[.agg #[.string ⟨#[73, 110, 116]⟩, .int .i64 1, .int .i64 2]] w fun e w' => e = .returned (.tuple #[.string ⟨#[91, 73, 110, 116, 33, 93]⟩, .bool true]) ∧ Below w.heap.size w w' :=
  print_yes ⟨#[73, 110, 116]⟩ 1 2 w (by show 3 ≤ 9000; omega) (by decide +kernel) (by omega) (by omega)
theorem awake_readV : readV (rdB 5 0 0 [91, 91, 73, 110, 116, 93, 33, 93, 33]) = yesT ⟨#[73, 110, 116]⟩ 2 3 := by
  have h : IsT [91, 91, 73, 110, 116, 93, 33, 93, 33] [73, 110, 116] 2 3 := ⟨by decide +kernel, by omega, by omega, by decide +kernel⟩
  rw [readV_yes h]; rfl
theorem awake_read (w : World) : Calls Try.prog 13 #[.string ⟨#[91, 91, 73, 110, 116, 93, 33, 93, 33]⟩] w fun e w' => e = .returned (.tuple #[.agg #[.string ⟨#[73, 110, 116]⟩, .int .i64 2, .int .i64 3], .bool true]) ∧ Below w.heap.size w w' := by
  refine (read_any ⟨#[91, 91, 73, 110, 116, 93, 33, 93, 33]⟩ w (by show 9 ≤ 9000; omega)).mono ?_
  rintro e w' ⟨rfl, hb⟩
  exact ⟨congrArg Ending.returned awake_readV, hb⟩

set_option maxRecDepth 100000 in
set_option maxHeartbeats 1000000 in
theorem awake_any (w : World) : Calls Try.prog 8 #[] w fun e w' => e = .returned (.bool true) ∧ Below w.heap.size w w' := by
  have HP := fun w => Lib.hid (awake_print w)
  have HR := fun w => Lib.hid (awake_read w)
  go_enter Try.func8, Try.ntmps8
  go_wp2_with fail
  refine (HP _).out.mono ?_
  rintro e w1 ⟨rfl, hb1⟩
  go_wp2_with fail
  refine (HR _).out.mono ?_
  rintro e w2 ⟨rfl, hb2⟩
  go_wp2_with fail
  go_ret
  exact ⟨rfl, chain hb1 (chain hb2 (below_new' w2 _))⟩
end Go.Proofs.Ytfinboplkjijhaa
