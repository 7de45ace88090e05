/- The walks of the small tests of letters and of the document's own answer: letter, digit, half, pair, start. Each answers a plain test of its number and leaves the world as it was. -/
import Derived.Test.YtgihnhdknphhpaaChecked
import Derived.Test.YtgihnhdknphhpaaMath
import Derived.WalkKit
import Derived.Deep.LoopGhost
namespace Go.Proofs.Ytgihnhdknphhpaa
open Go.RowKit

theorem Aside.intro {p : Prop} (h : p) : Aside p := h
theorem ret_bool {a b : Bool} (h : a = b) : Ending.returned (.bool a) = .returned (.bool b) := by rw [h]
theorem ret_boolw {a b : Bool} {w : World} (h : a = true ↔ b = true) : Ending.returned (.bool a) = .returned (.bool b) ∧ w = w := by rw [Bool.eq_iff_iff.2 h]; exact ⟨rfl, rfl⟩

end Go.Proofs.Ytgihnhdknphhpaa
