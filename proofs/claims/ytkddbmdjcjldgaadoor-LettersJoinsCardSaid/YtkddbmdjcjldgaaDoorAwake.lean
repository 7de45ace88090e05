/- The walk of the law's own examples: they hold, and below the call's own blocks nothing has turned. -/
import Derived.Test.YtkddbmdjcjldgaaDoorEach
import Derived.Test.YtkddbmdjcjldgaaDoorJoin
namespace Go.Proofs.YtkddbmdjcjldgaaDoor
open Go.RowKit

theorem joinS_ex : joinS [55357, 56832] = ⟨#[240, 159, 152, 128]⟩ := by decide +kernel
theorem joinOk_ex : joinOk [55357, 56832] = true := by decide +kernel
theorem codeAt_ex : codeAt ⟨#[97, 195, 169]⟩ 1 = (233, 2) := by decide +kernel
theorem name_ex1 : nameB [95, 97, 49] = true := by decide +kernel
theorem name_ex2 : nameB [49, 97] = false := by decide +kernel
theorem two_ints (w : World) : IntsAt (w.alloc (.cells #[.int .i64 55357, .int .i64 56832] 3)) (w.heap.size + 1) (some ⟨w.heap.size, 0, none⟩) 2 [55357, 56832] :=
  ⟨rfl, fun j z hz => by
    match j, hz with
    | 0, hz => cases hz; exact ⟨_, _, rfl, by omega, by rw [World.cell?_alloc_at _ _ _ _ rfl]; rfl⟩
    | 1, hz => cases hz; exact ⟨_, _, rfl, by omega, by rw [World.cell?_alloc_at _ _ _ _ rfl]; rfl⟩
    | j + 2, hz => simp at hz⟩
set_option maxRecDepth 100000 in
theorem awake_any (w : World) (ht : TabAt w) : Calls Tryd.prog 9 #[] w fun e w' => e = .returned (.bool true) ∧ Below w.heap.size w w' := by
  have HT := Lib.hid ht
  clear ht
  have HJ := Lib.hid (join_any (some ⟨w.heap.size, 0, none⟩) 2 2 [55357, 56832] (w.alloc (.cells #[.int .i64 55357, .int .i64 56832] 3)) (by omega) (by simpa using two_ints w))
  have hb0 : Below w.heap.size w (w.alloc (.cells #[.int .i64 55357, .int .i64 56832] 3)) := (Below.refl _ _).alloc (Nat.le_refl _) _
  have HB0 := Lib.hid hb0
  clear hb0
  go_enter Tryd.func9, Tryd.ntmps9
  go_wp2_with fail
  refine HJ.out.mono ?_
  rintro e w1 ⟨rfl, hb1⟩
  rw [joinS_ex, joinOk_ex]
  have hb : Below w.heap.size w w1 := HB0.out.trans (hb1.mono (by simp))
  have HB := Lib.hid hb
  clear hb hb1
  have HC := Lib.hid (code_any ⟨#[97, 195, 169]⟩ 1 w1 (by decide) (HT.out.below HB.out HT.out.lt))
  go_wp2_with fail
  refine HC.out.mono ?_
  rintro e w2 ⟨rfl, hb2⟩
  rw [codeAt_ex]
  have hb : Below w.heap.size w w2 := HB.out.trans (hb2.mono HB.out.size)
  have HB2 := Lib.hid hb
  clear hb hb2
  go_wp2_with fail
  refine (name_any ⟨#[95, 97, 49]⟩ w2 (by decide)).mono ?_
  rintro e w3 ⟨rfl, rfl⟩
  rw [show nameB (⟨#[95, 97, 49]⟩ : ByteArray).data.toList = true from name_ex1]
  go_wp2_with fail
  refine (name_any ⟨#[49, 97]⟩ w2 (by decide)).mono ?_
  rintro e w3 ⟨rfl, rfl⟩
  rw [show nameB (⟨#[49, 97]⟩ : ByteArray).data.toList = false from name_ex2]
  go_wp2_with fail
  go_ret
  exact ⟨rfl, HB2.out⟩
end Go.Proofs.YtkddbmdjcjldgaaDoor
