/- The walk of the law TokenNumbers. -/
import Derived.Test.YtfinboplkjijhaaGreatDoorTAwake
namespace Go.Proofs.YtfinboplkjijhaaGreatDoor
open Go.RowKit

theorem readS_cases (l : List UInt8) : (∃ ts, readS l = (ts, 0) ∧ readL l = some ts) ∨ ∃ er, readS l = ([], er) ∧ er ≠ 0 := by
  unfold readS
  split
  · exact .inr ⟨3, rfl, by omega⟩
  · split
    · exact .inr ⟨2, rfl, by omega⟩
    · cases h : readL l with
      | none => exact .inr ⟨2, rfl, by omega⟩
      | some ts => exact .inl ⟨ts, rfl, rfl⟩
theorem readS_some {l : List UInt8} {ts : List (Int × List UInt8)} (hl : l.length ≤ 8192) (hs : sourceB l = true) (hr : readL l = some ts) : readS l = (ts, 0) := by
  unfold readS
  rw [if_neg (by omega), if_neg (by rw [hs]; simp), hr]
theorem readS_none {l : List UInt8} (hl : l.length ≤ 8192) (hr : readL l = none) : readS l = ([], 2) := by
  unfold readS
  rw [if_neg (by omega), hr]
  split <;> rfl
namespace LNumbers

end LNumbers
end Go.Proofs.YtfinboplkjijhaaGreatDoor
