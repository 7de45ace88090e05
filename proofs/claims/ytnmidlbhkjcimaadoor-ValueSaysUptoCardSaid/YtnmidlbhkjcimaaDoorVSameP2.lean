/- In a seat without value.Same: little of it. -/
import Derived.Test.YtnmidlbhkjcimaaDoorVSameP
namespace Go.Proofs.YtnmidlbhkjcimaaDoor
theorem ba_eq {a b : ByteArray} : a.toList = b.toList ↔ a = b := ⟨fun h => by rw [ByteArray.toList_eq, ByteArray.toList_eq] at h; exact ByteArray.ext (Array.toList_inj.1 h), fun h => by rw [h]⟩
end Go.Proofs.YtnmidlbhkjcimaaDoor
