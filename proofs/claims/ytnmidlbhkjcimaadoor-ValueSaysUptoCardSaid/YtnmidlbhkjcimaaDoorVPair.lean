/- Two values in their boxes: what a law about two values keeps, and the calls on them. -/
import Derived.Test.YtnmidlbhkjcimaaDoorZCopy
import Derived.Test.YtnmidlbhkjcimaaDoorVSameP2
import Derived.Test.YtnmidlbhkjcimaaDoorVSame2
import Derived.Test.YtnmidlbhkjcimaaDoorZMath
namespace Go.Proofs.YtnmidlbhkjcimaaDoor
open Go.RowKit

open Classical in
noncomputable def samB (u v : VT) : Bool := decide (u = v)
theorem samB_iff {u v : VT} {b : Bool} (h : b = true ↔ u = v) : b = samB u v := by
  unfold samB
  by_cases e : u = v
  · rw [h.2 e]; simp [e]
  · have : b = false := by cases b; rfl; exact absurd (h.1 rfl) e
    rw [this]; simp [e]
theorem samB_self (u : VT) : samB u u = true := by unfold samB; simp
theorem samB_comm (u v : VT) : samB u v = samB v u := by
  unfold samB
  by_cases e : u = v
  · rw [e]
  · have e' : ¬ v = u := fun h => e h.symm
    simp [e, e']
/-- The value that this is, in a world. -/
def LiveV (w : World) (x : Value) (v : VT) : Prop := ∃ c0 c1 c2 c3 c4, x = .agg #[c0, c1, c2, c3, c4] ∧ VAt w w.heap.size v c0 c1 c2 c3 c4
theorem LiveV.below {w w' : World} {x : Value} {v : VT} (h : LiveV w x v) (hb : Below w.heap.size w w') : LiveV w' x v := by
  obtain ⟨c0, c1, c2, c3, c4, e, hv⟩ := h
  exact ⟨c0, c1, c2, c3, c4, e, VAt.more hb.size _ _ _ _ _ _ (VAt.below hb _ _ _ _ _ _ hv)⟩
theorem live_rsame {w : World} {x y : Value} {u v : VT} (hx : LiveV w x u) (hy : LiveV w y v) : Calls Tryd.prog 19 #[x, y] w fun e w' => e = .returned (.bool (samB u v)) ∧ Below w.heap.size w w' := by
  obtain ⟨c0, c1, c2, c3, c4, rfl, hu⟩ := hx
  obtain ⟨d0, d1, d2, d3, d4, rfl, hv⟩ := hy
  refine Calls.mono (vsame_any u v _ _ _ _ _ _ _ _ _ _ w w.heap.size (Nat.le_refl _) hu hv) ?_
  rintro e w' ⟨⟨b, rfl, hb⟩, hw⟩
  rw [samB_iff hb]
  exact ⟨rfl, hw⟩
theorem live_size {w : World} {x : Value} {u : VT} (hx : LiveV w x u) : Calls Tryd.prog 4 #[x] w fun e w' => e = .returned (.int .i64 (W64 (sizeV u))) ∧ Below w.heap.size w w' := by
  obtain ⟨c0, c1, c2, c3, c4, rfl, hu⟩ := hx
  exact vsize_any _ u (Nat.le_refl _) _ _ _ _ _ w w.heap.size (Nat.le_refl _) hu
theorem live_copy {w : World} {x : Value} {u : VT} (hs : SlimV u) (hx : LiveV w x u) : Calls Tryd.prog 6 #[x] w fun e w' => ∃ y, e = .returned y ∧ LiveV w' y u ∧ Below w.heap.size w w' := by
  obtain ⟨c0, c1, c2, c3, c4, rfl, hu⟩ := hx
  refine Calls.mono (copy_any u hs _ _ _ _ _ w w.heap.size (Nat.le_refl _) hu) ?_
  rintro e w' ⟨d0, d1, d2, d3, d4, rfl, hv, hw⟩
  exact ⟨_, rfl, ⟨d0, d1, d2, d3, d4, rfl, VP.at (fun b hb => hb.2) _ _ _ _ _ _ hv⟩, hw⟩
/-- Two boxes and what they hold. -/
def KY (w : World) (c0 c1 c2 c3 c4 d0 d1 d2 d3 d4 : Value) (a b : VT) (W : World) : Prop := Five W w.heap.size 0 c0 c1 c2 c3 c4 ∧ Five W (w.heap.size + 1) 0 d0 d1 d2 d3 d4 ∧ LiveV W (.agg #[c0, c1, c2, c3, c4]) a ∧ LiveV W (.agg #[d0, d1, d2, d3, d4]) b ∧ Laid5 W ∧ Below w.heap.size w W ∧ w.heap.size + 1 < W.heap.size
theorem KY.next {w W W' : World} {c0 c1 c2 c3 c4 d0 d1 d2 d3 d4 : Value} {a b : VT} (h : KY w c0 c1 c2 c3 c4 d0 d1 d2 d3 d4 a b W) (hb : Below W.heap.size W W') : KY w c0 c1 c2 c3 c4 d0 d1 d2 d3 d4 a b W' := by
  obtain ⟨h1, h2, h3, h4, h5, h6, h7⟩ := h
  exact ⟨h1.below hb (by omega), h2.below hb h7, h3.below hb, h4.below hb, h5.below hb, two_below h6 (hb.mono (Nat.le_refl _)), Nat.lt_of_lt_of_le h7 hb.size⟩
theorem KY.start (w : World) (c0 c1 c2 c3 c4 d0 d1 d2 d3 d4 : Value) (a b : VT) (ha : VAt w w.heap.size a c0 c1 c2 c3 c4) (hb : VAt w w.heap.size b d0 d1 d2 d3 d4) (hw : Laid5 w) : KY w c0 c1 c2 c3 c4 d0 d1 d2 d3 d4 a b ((w.alloc (.cells #[c0, c1, c2, c3, c4] 25)).alloc (.cells #[d0, d1, d2, d3, d4] 25)) := by
  have h1 := alloc_same w (.cells #[c0, c1, c2, c3, c4] 25)
  have hs1 : (w.alloc (.cells #[c0, c1, c2, c3, c4] 25)).heap.size = w.heap.size + 1 := by simp
  have h2 := alloc_same (w.alloc (.cells #[c0, c1, c2, c3, c4] 25)) (.cells #[d0, d1, d2, d3, d4] 25)
  have h3 := two_below h1 h2
  have la : LiveV w (.agg #[c0, c1, c2, c3, c4]) a := ⟨_, _, _, _, _, rfl, ha⟩
  have lb : LiveV w (.agg #[d0, d1, d2, d3, d4]) b := ⟨_, _, _, _, _, rfl, hb⟩
  exact ⟨(five_at_new w _ _ _ _ _ _ rfl).below h2 (by omega), five_at_new _ _ _ _ _ _ _ hs1.symm, la.below h3, lb.below h3, hw.below h3, h3, by simp⟩
theorem KY.drawn {w W : World} {c0 c1 c2 c3 c4 d0 d1 d2 d3 d4 : Value} {a b : VT} (h : KY w c0 c1 c2 c3 c4 d0 d1 d2 d3 d4 a b W) : KY w c0 c1 c2 c3 c4 d0 d1 d2 d3 d4 a b W.drew := h.next (Below.drew (Below.refl _ _))
/-- All of it, written out for a region that draws its order. -/
theorem KY.written {w W : World} {c0 c1 c2 c3 c4 d0 d1 d2 d3 d4 : Value} {a b : VT} (h : KY w c0 c1 c2 c3 c4 d0 d1 d2 d3 d4 a b W) : W.cell? ⟨w.heap.size, 0, none⟩ = some c0 ∧ W.cell? ⟨w.heap.size, 1, none⟩ = some c1 ∧ W.cell? ⟨w.heap.size, 2, none⟩ = some c2 ∧ W.cell? ⟨w.heap.size, 3, none⟩ = some c3 ∧ W.cell? ⟨w.heap.size, 4, none⟩ = some c4 ∧
    W.cell? ⟨w.heap.size + 1, 0, none⟩ = some d0 ∧ W.cell? ⟨w.heap.size + 1, 1, none⟩ = some d1 ∧ W.cell? ⟨w.heap.size + 1, 2, none⟩ = some d2 ∧ W.cell? ⟨w.heap.size + 1, 3, none⟩ = some d3 ∧ W.cell? ⟨w.heap.size + 1, 4, none⟩ = some d4 ∧
    KY w c0 c1 c2 c3 c4 d0 d1 d2 d3 d4 a b W := by
  have h' := h
  obtain ⟨⟨f0, f1, f2, f3, f4⟩, ⟨g0, g1, g2, g3, g4⟩, _⟩ := h'
  exact ⟨f0, f1, f2, f3, f4, g0, g1, g2, g3, g4, h⟩
theorem ky_of {w W : World} {c0 c1 c2 c3 c4 d0 d1 d2 d3 d4 : Value} {a b : VT} {p0 p1 p2 p3 p4 p5 p6 p7 p8 p9 : Prop} (h : p0 ∧ p1 ∧ p2 ∧ p3 ∧ p4 ∧ p5 ∧ p6 ∧ p7 ∧ p8 ∧ p9 ∧ KY w c0 c1 c2 c3 c4 d0 d1 d2 d3 d4 a b W) : KY w c0 c1 c2 c3 c4 d0 d1 d2 d3 d4 a b W := h.2.2.2.2.2.2.2.2.2.2
theorem KY.one {w W : World} {c0 c1 c2 c3 c4 d0 d1 d2 d3 d4 : Value} {a b : VT} (h : KY w c0 c1 c2 c3 c4 d0 d1 d2 d3 d4 a b W) : LiveV W (.agg #[c0, c1, c2, c3, c4]) a := h.2.2.1
theorem KY.two {w W : World} {c0 c1 c2 c3 c4 d0 d1 d2 d3 d4 : Value} {a b : VT} (h : KY w c0 c1 c2 c3 c4 d0 d1 d2 d3 d4 a b W) : LiveV W (.agg #[d0, d1, d2, d3, d4]) b := h.2.2.2.1
theorem KY.awake {w W : World} {c0 c1 c2 c3 c4 d0 d1 d2 d3 d4 : Value} {a b : VT} (h : KY w c0 c1 c2 c3 c4 d0 d1 d2 d3 d4 a b W) : Calls Tryd.prog 5 #[] W fun e w' => e = .returned (.bool true) ∧ Below W.heap.size W w' := vawake_any W h.2.2.2.2.1
theorem KY.below {w W : World} {c0 c1 c2 c3 c4 d0 d1 d2 d3 d4 : Value} {a b : VT} (h : KY w c0 c1 c2 c3 c4 d0 d1 d2 d3 d4 a b W) : Below w.heap.size w W := h.2.2.2.2.2.1
end Go.Proofs.YtnmidlbhkjcimaaDoor
