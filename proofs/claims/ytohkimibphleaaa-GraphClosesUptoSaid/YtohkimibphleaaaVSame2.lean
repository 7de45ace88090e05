/- The walk of seineref1.Same, and both together. -/
import Derived.Test.YtohkimibphleaaaVSame
namespace Go.Proofs.Ytohkimibphleaaa
open Go.RowKit

/-- The two boxes, what of them the loop and the end read. -/
def KS (w : World) (a3 a4 b3 b4 : Value) (W : World) : Prop := W.cell? ⟨w.heap.size, 3, none⟩ = some a3 ∧ W.cell? ⟨w.heap.size, 4, none⟩ = some a4 ∧ W.cell? ⟨w.heap.size + 1, 3, none⟩ = some b3 ∧ W.cell? ⟨w.heap.size + 1, 4, none⟩ = some b4 ∧ Below w.heap.size w W ∧ w.heap.size + 1 < W.heap.size
theorem KS.next {w W W' : World} {a3 a4 b3 b4 : Value} (h : KS w a3 a4 b3 b4 W) (hb : Below W.heap.size W W') : KS w a3 a4 b3 b4 W' := by
  obtain ⟨h1, h2, h3, h4, hB, hs⟩ := h
  have hs0 : w.heap.size < W.heap.size := by omega
  exact ⟨(hb.cell (p := ⟨_, _, none⟩) hs0).trans h1, (hb.cell (p := ⟨_, _, none⟩) hs0).trans h2, (hb.cell (p := ⟨_, _, none⟩) hs).trans h3, (hb.cell (p := ⟨_, _, none⟩) hs).trans h4, hB.trans (hb.mono hB.size), Nat.lt_of_lt_of_le hs hb.size⟩
theorem KS.start (w : World) (c0 c1 c2 c3 c4 d0 d1 d2 d3 d4 : Value) (t : TypeId) : KS w c3 c4 d3 d4 ((w.alloc (.cells #[c0, c1, c2, c3, c4] t)).alloc (.cells #[d0, d1, d2, d3, d4] t)) := by
  have k0 : ((w.alloc (.cells #[c0, c1, c2, c3, c4] t)).alloc (.cells #[d0, d1, d2, d3, d4] t)).heap[w.heap.size]? = some (.cells #[c0, c1, c2, c3, c4] t) := by
    rw [Below.heap_alloc _ _ _ (by simp)]
    show (w.heap.push _)[w.heap.size]? = _; simp
  have k1 : ((w.alloc (.cells #[c0, c1, c2, c3, c4] t)).alloc (.cells #[d0, d1, d2, d3, d4] t)).heap[w.heap.size + 1]? = some (.cells #[d0, d1, d2, d3, d4] t) := by
    show ((w.heap.push _).push _)[w.heap.size + 1]? = _
    rw [Array.getElem?_push, if_pos (by simp)]
  refine ⟨?_, ?_, ?_, ?_, ((Below.refl _ _).alloc (Nat.le_refl _) _).alloc (by simp) _, by simp⟩
  all_goals (simp only [World.cell?]; first | (rw [k0]; rfl) | (rw [k1]; rfl))
theorem KS.below {w W : World} {a3 a4 b3 b4 : Value} (h : KS w a3 a4 b3 b4 W) : Below w.heap.size w W := h.2.2.2.2.1

/-- Two elements at hand. -/
def KL (w : World) (a3 a4 b3 b4 : Value) (b O : Nat) (d0 d1 d2 d3 d4 : Value) (b' O' : Nat) (f0 f1 f2 f3 f4 : Value) (W : World) : Prop :=
  Five W b O d0 d1 d2 d3 d4 ∧ Five W b' O' f0 f1 f2 f3 f4 ∧ KS w a3 a4 b3 b4 W
theorem KL.next {w W W' : World} {a3 a4 b3 b4 : Value} {b O : Nat} {d0 d1 d2 d3 d4 : Value} {b' O' : Nat} {f0 f1 f2 f3 f4 : Value} (h : KL w a3 a4 b3 b4 b O d0 d1 d2 d3 d4 b' O' f0 f1 f2 f3 f4 W) (hl : b < w.heap.size) (hl' : b' < w.heap.size) (hb : Below W.heap.size W W') : KL w a3 a4 b3 b4 b O d0 d1 d2 d3 d4 b' O' f0 f1 f2 f3 f4 W' := by
  obtain ⟨h2, h4, hK⟩ := h
  have g := Nat.lt_of_lt_of_le hl hK.below.size
  have g' := Nat.lt_of_lt_of_le hl' hK.below.size
  exact ⟨h2.below hb g, h4.below hb g', hK.next hb⟩
theorem KL.written {w W : World} {a3 a4 b3 b4 : Value} {b O : Nat} {d0 d1 d2 d3 d4 : Value} {b' O' : Nat} {f0 f1 f2 f3 f4 : Value} (h : KL w a3 a4 b3 b4 b O d0 d1 d2 d3 d4 b' O' f0 f1 f2 f3 f4 W) :
    W.cell? ⟨b, O, none⟩ = some d0 ∧ W.cell? ⟨b, O + 1, none⟩ = some d1 ∧ W.cell? ⟨b, O + 2, none⟩ = some d2 ∧ W.cell? ⟨b, O + 3, none⟩ = some d3 ∧ W.cell? ⟨b, O + 4, none⟩ = some d4 ∧
    W.cell? ⟨b', O', none⟩ = some f0 ∧ W.cell? ⟨b', O' + 1, none⟩ = some f1 ∧ W.cell? ⟨b', O' + 2, none⟩ = some f2 ∧ W.cell? ⟨b', O' + 3, none⟩ = some f3 ∧ W.cell? ⟨b', O' + 4, none⟩ = some f4 ∧
    W.cell? ⟨w.heap.size, 3, none⟩ = some a3 ∧ W.cell? ⟨w.heap.size + 1, 3, none⟩ = some b3 ∧
    KL w a3 a4 b3 b4 b O d0 d1 d2 d3 d4 b' O' f0 f1 f2 f3 f4 W :=
  ⟨h.1.1, h.1.2.1, h.1.2.2.1, h.1.2.2.2.1, h.1.2.2.2.2, h.2.1.1, h.2.1.2.1, h.2.1.2.2.1, h.2.1.2.2.2.1, h.2.1.2.2.2.2, h.2.2.1, h.2.2.2.2.1, h⟩

end Go.Proofs.Ytohkimibphleaaa
