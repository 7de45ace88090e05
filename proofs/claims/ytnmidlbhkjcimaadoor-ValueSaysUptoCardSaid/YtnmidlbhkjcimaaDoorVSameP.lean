/- The walks of value.Same: slices.EqualFunc over values. -/
import Derived.Test.YtnmidlbhkjcimaaDoorZVal
import Derived.Test.YtnmidlbhkjcimaaDoorZKid
import Derived.Test.YtnmidlbhkjcimaaDoorZCopy
namespace Go.Proofs.YtnmidlbhkjcimaaDoor
open Go.RowKit

/-- A call that answers a Boolean that says P. -/
def Tells (f : FuncId) (args : Array Value) (w : World) (P : Prop) : Prop := Calls Tryd.prog f args w fun e w' => (∃ b, e = .returned (.bool b) ∧ (b = true ↔ P)) ∧ Below w.heap.size w w'
theorem Tells.yes {f : FuncId} {args : Array Value} {w : World} {P : Prop} (h : Tells f args w P) (hp : P) : Calls Tryd.prog f args w fun e w' => e = .returned (.bool true) ∧ Below w.heap.size w w' := by
  refine Calls.mono h ?_
  rintro e w' ⟨⟨b, rfl, hb⟩, hw⟩
  rw [hb.2 hp]
  exact ⟨rfl, hw⟩
theorem Tells.no {f : FuncId} {args : Array Value} {w : World} {P : Prop} (h : Tells f args w P) (hp : ¬ P) : Calls Tryd.prog f args w fun e w' => e = .returned (.bool false) ∧ Below w.heap.size w w' := by
  refine Calls.mono h ?_
  rintro e w' ⟨⟨b, rfl, hb⟩, hw⟩
  have : b = false := by cases b; rfl; exact absurd (hb.1 rfl) hp
  rw [this]
  exact ⟨rfl, hw⟩
theorem tells_true {P : Prop} {w w' : World} (hp : P) (hw : Below w.heap.size w w') : (∃ b, Ending.returned (.bool true) = .returned (.bool b) ∧ (b = true ↔ P)) ∧ Below w.heap.size w w' := ⟨⟨true, rfl, ⟨fun _ => hp, fun _ => rfl⟩⟩, hw⟩
theorem tells_false {P : Prop} {w w' : World} (hp : ¬ P) (hw : Below w.heap.size w w') : (∃ b, Ending.returned (.bool false) = .returned (.bool b) ∧ (b = true ↔ P)) ∧ Below w.heap.size w w' := ⟨⟨false, rfl, ⟨fun e => by simp at e, fun e => absurd e hp⟩⟩, hw⟩
end Go.Proofs.YtnmidlbhkjcimaaDoor
