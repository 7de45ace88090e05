/- A box, and all below it, that stand. -/
import Derived.Test.YtnmidlbhkjcimaaDoorZGood
import Derived.Test.YtnmidlbhkjcimaaDoorZKid
namespace Go.Proofs.YtnmidlbhkjcimaaDoor
open Go.RowKit

/-- All below a box stands, and the box. -/
def KBx (w : World) (o : Obj) (W : World) : Prop := Below (w.heap.size + 1) (w.alloc o) W
theorem KBx.start (w : World) (o : Obj) : KBx w o (w.alloc o) := Below.refl _ _
theorem KBx.low {w W : World} {o : Obj} (h : KBx w o W) : Below w.heap.size w W := ((Below.refl w.heap.size w).alloc (Nat.le_refl _) o).trans (h.mono (Nat.le_succ _))
theorem KBx.up {w W : World} {o : Obj} (h : KBx w o W) : w.heap.size + 1 ≤ W.heap.size := by
  have := h.size
  have : (w.alloc o).heap.size = w.heap.size + 1 := by simp
  omega
theorem KBx.next {w W W' : World} {o : Obj} (h : KBx w o W) (hb : Below W.heap.size W W') : KBx w o W' := h.trans (hb.mono h.up)
theorem KBx.row {w W W' : World} {o : Obj} {row : Option Nat} (h : KBx w o W) (hg : W.grownBy W' row) (hr : ∀ k, row = some k → w.heap.size + 1 ≤ k) : KBx w o W' := h.grown hg h.up hr
theorem KBx.five {w W : World} {c0 c1 c2 c3 c4 : Value} (h : KBx w (.cells #[c0, c1, c2, c3, c4] 25) W) : Five W w.heap.size 0 c0 c1 c2 c3 c4 := (five_at_new w _ _ _ _ _ _ rfl).below h (Nat.lt_succ_self _)
theorem KBx.at {w W : World} {o : Obj} {v : VT} {c0 c1 c2 c3 c4 : Value} (h : KBx w o W) (hv : VAt w w.heap.size v c0 c1 c2 c3 c4) : VAt W w.heap.size v c0 c1 c2 c3 c4 := VAt.below h.low _ _ _ _ _ _ hv
theorem KBx.laid {w W : World} {o : Obj} (h : KBx w o W) (hw : Laid5 w) : Laid5 W := hw.below h.low
end Go.Proofs.YtnmidlbhkjcimaaDoor
