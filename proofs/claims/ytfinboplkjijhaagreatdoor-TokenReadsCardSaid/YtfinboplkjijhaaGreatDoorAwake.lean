/- The walk of the law's own examples: they hold, and below the call's own blocks nothing has turned. -/
import Derived.Test.YtfinboplkjijhaaGreatDoorEach
import Derived.Test.YtfinboplkjijhaaGreatDoorJoin
namespace Go.Proofs.YtfinboplkjijhaaGreatDoor
open Go.RowKit

theorem joinS_ex : joinS [55357, 56832] = ⟨#[240, 159, 152, 128]⟩ := by decide +kernel
theorem joinOk_ex : joinOk [55357, 56832] = true := by decide +kernel
theorem codeAt_ex : codeAt ⟨#[97, 195, 169]⟩ 1 = (233, 2) := by decide +kernel
theorem name_ex1 : nameB [95, 97, 49] = true := by decide +kernel
theorem name_ex2 : nameB [49, 97] = false := by decide +kernel
theorem two_ints (w : World) : IntsAt (w.alloc (.cells #[.int .i64 55357, .int .i64 56832] 3)) (w.heap.size + 1) (some ⟨w.heap.size, 0, none⟩) 2 [55357, 56832] :=
  ⟨rfl, fun j z hz => by
    match j, hz with
    | 0, hz => cases hz; exact ⟨_, _, rfl, by omega, by rw [World.cell?_alloc_at _ _ _ _ rfl]; rfl⟩
    | 1, hz => cases hz; exact ⟨_, _, rfl, by omega, by rw [World.cell?_alloc_at _ _ _ _ rfl]; rfl⟩
    | j + 2, hz => simp at hz⟩
end Go.Proofs.YtfinboplkjijhaaGreatDoor
