/- The walk of the law ValueUnlike. -/
import Derived.Test.YtnmidlbhkjcimaaDoorVPair
import Derived.Test.YtnmidlbhkjcimaaDoorVSameT
import Derived.Deep.RegionHeld3
namespace Go.Proofs.YtnmidlbhkjcimaaDoor
open Go.RowKit

theorem W64_small {n : Nat} (h : n ≤ 1048576) : W64 n = (n : Int) := by
  unfold W64
  simp only [IntKind.wrap_i64]
  omega
/-- Two values in their boxes, and two lists of tokens. -/
def KU (w : World) (c0 c1 c2 c3 c4 d0 d1 d2 d3 d4 : Value) (a b : VT) (A A' : Option Addr) (n n' : Nat) (ts us : List (Int × ByteArray)) (W : World) : Prop := KY w c0 c1 c2 c3 c4 d0 d1 d2 d3 d4 a b W ∧ TL W A n ts ∧ TL W A' n' us
theorem KU.next {w W W' : World} {c0 c1 c2 c3 c4 d0 d1 d2 d3 d4 : Value} {a b : VT} {A A' : Option Addr} {n n' : Nat} {ts us : List (Int × ByteArray)} (h : KU w c0 c1 c2 c3 c4 d0 d1 d2 d3 d4 a b A A' n n' ts us W) (hb : Below W.heap.size W W') : KU w c0 c1 c2 c3 c4 d0 d1 d2 d3 d4 a b A A' n n' ts us W' := ⟨h.1.next hb, h.2.1.below hb, h.2.2.below hb⟩
theorem KU.drawn {w W : World} {c0 c1 c2 c3 c4 d0 d1 d2 d3 d4 : Value} {a b : VT} {A A' : Option Addr} {n n' : Nat} {ts us : List (Int × ByteArray)} (h : KU w c0 c1 c2 c3 c4 d0 d1 d2 d3 d4 a b A A' n n' ts us W) : KU w c0 c1 c2 c3 c4 d0 d1 d2 d3 d4 a b A A' n n' ts us W.drew := h.next (Below.drew (Below.refl _ _))
theorem KU.written {w W : World} {c0 c1 c2 c3 c4 d0 d1 d2 d3 d4 : Value} {a b : VT} {A A' : Option Addr} {n n' : Nat} {ts us : List (Int × ByteArray)} (h : KU w c0 c1 c2 c3 c4 d0 d1 d2 d3 d4 a b A A' n n' ts us W) : W.cell? ⟨w.heap.size, 0, none⟩ = some c0 ∧ W.cell? ⟨w.heap.size, 1, none⟩ = some c1 ∧ W.cell? ⟨w.heap.size, 2, none⟩ = some c2 ∧ W.cell? ⟨w.heap.size, 3, none⟩ = some c3 ∧ W.cell? ⟨w.heap.size, 4, none⟩ = some c4 ∧
    W.cell? ⟨w.heap.size + 1, 0, none⟩ = some d0 ∧ W.cell? ⟨w.heap.size + 1, 1, none⟩ = some d1 ∧ W.cell? ⟨w.heap.size + 1, 2, none⟩ = some d2 ∧ W.cell? ⟨w.heap.size + 1, 3, none⟩ = some d3 ∧ W.cell? ⟨w.heap.size + 1, 4, none⟩ = some d4 ∧
    KU w c0 c1 c2 c3 c4 d0 d1 d2 d3 d4 a b A A' n n' ts us W := by
  obtain ⟨f0, f1, f2, f3, f4, g0, g1, g2, g3, g4, _⟩ := h.1.written
  exact ⟨f0, f1, f2, f3, f4, g0, g1, g2, g3, g4, h⟩
theorem ku_of {w W : World} {c0 c1 c2 c3 c4 d0 d1 d2 d3 d4 : Value} {a b : VT} {A A' : Option Addr} {n n' : Nat} {ts us : List (Int × ByteArray)} {p0 p1 p2 p3 p4 p5 p6 p7 p8 p9 : Prop} (h : p0 ∧ p1 ∧ p2 ∧ p3 ∧ p4 ∧ p5 ∧ p6 ∧ p7 ∧ p8 ∧ p9 ∧ KU w c0 c1 c2 c3 c4 d0 d1 d2 d3 d4 a b A A' n n' ts us W) : KU w c0 c1 c2 c3 c4 d0 d1 d2 d3 d4 a b A A' n n' ts us W := h.2.2.2.2.2.2.2.2.2.2
theorem toks_len (v : VT) : (toksV v).length ≤ 4 * sizeV v := by
  unfold toksV
  split
  · have := vtok_len v; omega
  · simp
/-- The tokens of two plain values are alike just if the values are. -/
theorem unlike {a b : VT} (ha : plainB a = true) (hb : plainB b = true) (ra : RngV a) (rb : RngV b) : tokEq (toksV a) (toksV b) = samB a b := by
  have fa : fitV nameB a = true := by unfold plainB at ha; rw [Bool.and_eq_true] at ha; exact ha.1
  have fb : fitV nameB b = true := by unfold plainB at hb; rw [Bool.and_eq_true] at hb; exact hb.1
  have h := tok_same nameB fa ra fb rb
  unfold toksV
  rw [if_pos ha, if_pos hb]
  by_cases e : a = b
  · rw [tokEq_yes (h.2 e), e, samB_self]
  · rw [tokEq_no (fun e' => e (h.1 e'))]
    unfold samB; simp [e]
theorem live_tokens {w : World} {x : Value} {u : VT} (hz : sizeV u ≤ 9000) (hr : RngV u) (hx : LiveV w x u) (hw : Laid5 w) : Calls Tryd.prog 7 #[x] w fun e w' => ∃ A c, e = .returned (.tuple #[.slice A (toksV u).length c, .bool (plainB u)]) ∧ TL w' A (toksV u).length (toksV u) ∧ Below w.heap.size w w' := by
  obtain ⟨c0, c1, c2, c3, c4, rfl, hu⟩ := hx
  refine Calls.mono (tokens_any u hz hr _ _ _ _ _ w w.heap.size (Nat.le_refl _) hu hw) ?_
  rintro e w' ⟨V, rfl, hT, hb⟩
  obtain ⟨A, c, rfl, hL⟩ := hT.live
  exact ⟨A, c, rfl, hL, hb⟩
theorem live_plain {w : World} {x : Value} {u : VT} (hz : sizeV u ≤ 9000) (hx : LiveV w x u) (hw : Laid5 w) : Calls Tryd.prog 12 #[x] w fun e w' => e = .returned (.bool (plainB u)) ∧ Below w.heap.size w w' := by
  obtain ⟨c0, c1, c2, c3, c4, rfl, hu⟩ := hx
  exact vplain_any u hz _ _ _ _ _ w w.heap.size (Nat.le_refl _) hu hw
end Go.Proofs.YtnmidlbhkjcimaaDoor
namespace Go.Proofs.YtnmidlbhkjcimaaDoor.LVUnlike
open Go.RowKit
end Go.Proofs.YtnmidlbhkjcimaaDoor.LVUnlike
