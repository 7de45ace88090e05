/- The walks of Right, of the landed package and of the document's own answer; a type in the memory. -/
import Derived.Test.YtgihnhdknphhpaaPreds
import Derived.Test.YtgihnhdknphhpaaWRead
import Derived.Deep.QuietTactic
import Derived.BigQuiet
import Derived.Deep.Draws
import Derived.Deep.DeepCutAuto
import Derived.Lib.Hide
import Derived.Shelf.Abstract
namespace Go.Proofs.Ytgihnhdknphhpaa
open Go.RowKit

abbrev tyV (n : ByteArray) (l m : Int) : Value := .agg #[.string n, .int .i64 l, .int .i64 m]
abbrev tyO (n : ByteArray) (l m : Int) : Obj := .cells #[.string n, .int .i64 l, .int .i64 m] 24
theorem below_new {w : World} {cs : Array Value} {t : TypeId} : Below w.heap.size w (w.alloc (.cells cs t)) := (Below.refl _ _).alloc (Nat.le_refl _) _
theorem bdraw {B : Nat} {a w : World} (h : Below B a w) (n : Nat) : Below B a (w.drewN n) := ⟨h.os, h.tape, h.output, h.size, h.block⟩
theorem ret_bb {a b : Bool} (h : a = b) : Ending.returned (.bool a) = .returned (.bool b) := by rw [h]
theorem right_true {n : List UInt8} {l m : Int} (h : rightT n l m = true) : nameB n = true ∧ 0 ≤ l ∧ l ≤ 4 ∧ 0 ≤ m ∧ m < 2 ^ (l.toNat + 1) := by
  simpa [rightT] using h
theorem right_small {n : List UInt8} {l m : Int} (h : rightT n l m = true) : 0 ≤ l ∧ l ≤ 4 ∧ 0 ≤ m ∧ m < 32 := by
  obtain ⟨_, h1, h2, h3, h4⟩ := right_true h
  refine ⟨h1, h2, h3, ?_⟩
  have : l = 0 ∨ l = 1 ∨ l = 2 ∨ l = 3 ∨ l = 4 := by omega
  rcases this with rfl | rfl | rfl | rfl | rfl <;> simp at h4 <;> omega
theorem right_of {n : List UInt8} {l m : Int} (hn : nameB n = true) (h1 : 0 ≤ l) (h2 : l ≤ 4) (h3 : 0 ≤ m) (h4 : m < 2 ^ (l.toNat + 1)) : rightT n l m = true := by
  simp [rightT, hn, h1, h2, h3, h4]
theorem five {l : Int} (h0 : 0 ≤ l) (h4 : l ≤ 4) : l = 0 ∨ l = 1 ∨ l = 2 ∨ l = 3 ∨ l = 4 := by omega

end Go.Proofs.Ytgihnhdknphhpaa
