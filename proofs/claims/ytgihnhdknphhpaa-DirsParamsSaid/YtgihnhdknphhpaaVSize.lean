/- The walk of seinekeep.Size: by induction on the tree. -/
import Derived.Test.YtgihnhdknphhpaaVAt
import Derived.Deep.LoopGhost
import Derived.Deep.WholeRow
import Derived.Deep.RegionHeld3
import Derived.Shelf.Abstract
namespace Go.Proofs.Ytgihnhdknphhpaa
open Go.RowKit

mutual
def sizeV : VT → Nat
  | .mk _ _ s l m => 1 + s.size + sizeL l + sizeM m
def sizeL : VL → Nat
  | .nil => 0
  | .cons v t => sizeV v + sizeL t
def sizeM : VM → Nat
  | .nil => 0
  | .cons nm v t => nm.size + sizeV v + sizeM t
end
/-- The first j of them. -/
def preL : VL → Nat → Nat
  | .nil, _ => 0
  | .cons _ _, 0 => 0
  | .cons v t, j + 1 => sizeV v + preL t j
def preM : VM → Nat → Nat
  | .nil, _ => 0
  | .cons _ _ _, 0 => 0
  | .cons nm v t, j + 1 => nm.size + sizeV v + preM t j
theorem preL_zero (l : VL) : preL l 0 = 0 := by cases l <;> rfl
theorem preM_zero (l : VM) : preM l 0 = 0 := by cases l <;> rfl
theorem preL_next : ∀ {l : VL} {j : Nat} {v : VT}, l.get j = some v → preL l (j + 1) = preL l j + sizeV v
  | .nil, _, _, h => by simp [VL.get] at h
  | .cons u t, 0, v, h => by
    have : u = v := by simpa [VL.get] using h
    subst this
    show sizeV u + preL t 0 = 0 + sizeV u
    rw [preL_zero]; omega
  | .cons u t, j + 1, v, h => by
    have := preL_next (l := t) (j := j) (v := v) h
    rw [preL, this, preL]; omega
theorem preM_next : ∀ {l : VM} {j : Nat} {nm : ByteArray} {v : VT}, l.get j = some (nm, v) → preM l (j + 1) = preM l j + nm.size + sizeV v
  | .nil, _, _, _, h => by simp [VM.get] at h
  | .cons x u t, 0, nm, v, h => by
    have : x = nm ∧ u = v := by simpa [VM.get] using h
    obtain ⟨rfl, rfl⟩ := this
    show x.size + sizeV u + preM t 0 = 0 + x.size + sizeV u
    rw [preM_zero]; omega
  | .cons x u t, j + 1, nm, v, h => by
    have := preM_next (l := t) (j := j) (nm := nm) (v := v) h
    rw [preM, this, preM]; omega
theorem preL_all : ∀ l : VL, preL l l.len = sizeL l
  | .nil => rfl
  | .cons v t => by rw [VL.len, preL, preL_all t, sizeL]
theorem preM_all : ∀ l : VM, preM l l.len = sizeM l
  | .nil => rfl
  | .cons nm v t => by rw [VM.len, preM, preM_all t, sizeM]
theorem sizeL_get : ∀ {l : VL} {j : Nat} {v : VT}, l.get j = some v → sizeV v ≤ sizeL l
  | .nil, _, _, h => by simp [VL.get] at h
  | .cons u t, 0, v, h => by
    have : u = v := by simpa [VL.get] using h
    subst this
    rw [sizeL]; omega
  | .cons u t, j + 1, v, h => by
    have := sizeL_get (l := t) (j := j) (v := v) h
    rw [sizeL]; omega
theorem sizeM_get : ∀ {l : VM} {j : Nat} {nm : ByteArray} {v : VT}, l.get j = some (nm, v) → nm.size + sizeV v ≤ sizeM l
  | .nil, _, _, _, h => by simp [VM.get] at h
  | .cons x u t, 0, nm, v, h => by
    have : x = nm ∧ u = v := by simpa [VM.get] using h
    obtain ⟨rfl, rfl⟩ := this
    rw [sizeM]; omega
  | .cons x u t, j + 1, nm, v, h => by
    have := sizeM_get (l := t) (j := j) (nm := nm) (v := v) h
    rw [sizeM]; omega
/-- A sum as a number of 64 bits. -/
def W64 (n : Nat) : Int := IntKind.i64.wrap (n : Int)
theorem W64_add (a b : Nat) : IntKind.i64.wrap (W64 a + W64 b) = W64 (a + b) := by
  unfold W64
  simp only [IntKind.wrap_i64]
  omega
theorem W64_plus (a b : Nat) : IntKind.i64.wrap (W64 a + (b : Int)) = W64 (a + b) := by
  unfold W64
  simp only [IntKind.wrap_i64]
  omega
theorem W64_one (b : Nat) : IntKind.i64.wrap (1 + (b : Int)) = W64 (1 + b) := by
  unfold W64
  simp only [IntKind.wrap_i64]
  omega
/-- The box of the argument, and nothing that was there has turned. -/
def KV (w : World) (c2 c3 c4 : Value) (w' : World) : Prop := w'.cell? ⟨w.heap.size, 2, none⟩ = some c2 ∧ w'.cell? ⟨w.heap.size, 3, none⟩ = some c3 ∧ w'.cell? ⟨w.heap.size, 4, none⟩ = some c4 ∧ Below w.heap.size w w' ∧ w.heap.size < w'.heap.size
theorem KV.next {w W W' : World} {c2 c3 c4 : Value} (h : KV w c2 c3 c4 W) (hb : Below W.heap.size W W') : KV w c2 c3 c4 W' := by
  obtain ⟨h2, h3, h4, hB, hs⟩ := h
  exact ⟨(hb.cell (p := ⟨_, _, none⟩) hs).trans h2, (hb.cell (p := ⟨_, _, none⟩) hs).trans h3, (hb.cell (p := ⟨_, _, none⟩) hs).trans h4, hB.trans (hb.mono hB.size), Nat.lt_of_lt_of_le hs hb.size⟩
theorem KV.start (w : World) (c0 c1 c2 c3 c4 : Value) (t : TypeId) : KV w c2 c3 c4 (w.alloc (.cells #[c0, c1, c2, c3, c4] t)) := by
  refine ⟨?_, ?_, ?_, (Below.refl _ _).alloc (Nat.le_refl _) _, by simp⟩ <;> (simp only [World.cell?]; rw [show (w.alloc (.cells #[c0, c1, c2, c3, c4] t)).heap[w.heap.size]? = some (.cells #[c0, c1, c2, c3, c4] t) by show (w.heap.push _)[w.heap.size]? = _; simp]; rfl)
theorem KV.elem {w W W' : World} {c2 c3 c4 : Value} {p : Addr} {x : Value} (h : KV w c2 c3 c4 W ∧ W.cell? p = some x) (hp : p.block < w.heap.size) (hb : Below W.heap.size W W') : KV w c2 c3 c4 W' ∧ W'.cell? p = some x :=
  ⟨h.1.next hb, (hb.cell (Nat.lt_trans hp h.1.2.2.2.2)).trans h.2⟩
/-- And the member at hand. -/
def KM (w : World) (c2 c3 c4 : Value) (b O : Nat) (nm d0 d1 d2 d3 d4 : Value) (w' : World) : Prop := w'.cell? ⟨w.heap.size, 4, none⟩ = some c4 ∧ w'.cell? ⟨b, O, none⟩ = some nm ∧ Five w' b (O + 1) d0 d1 d2 d3 d4 ∧ KV w c2 c3 c4 w'
theorem KM.next {w W W' : World} {c2 c3 c4 : Value} {b O : Nat} {nm d0 d1 d2 d3 d4 : Value} (h : KM w c2 c3 c4 b O nm d0 d1 d2 d3 d4 W) (hbw : b < w.heap.size) (hb : Below W.heap.size W W') : KM w c2 c3 c4 b O nm d0 d1 d2 d3 d4 W' := by
  obtain ⟨h4, hn, hF, hK⟩ := h
  have hl : b < W.heap.size := Nat.lt_trans hbw hK.2.2.2.2
  have hK' := hK.next hb
  exact ⟨hK'.2.2.1, (hb.cell (p := ⟨b, _, none⟩) hl).trans hn, hF.below hb hl, hK'⟩
theorem KM.below {w W : World} {c2 c3 c4 : Value} {b O : Nat} {nm d0 d1 d2 d3 d4 : Value} (h : KM w c2 c3 c4 b O nm d0 d1 d2 d3 d4 W) : Below w.heap.size w W := h.2.2.2.2.2.2.1
theorem KM.written {w W : World} {c2 c3 c4 : Value} {b O : Nat} {nm d0 d1 d2 d3 d4 : Value} (h : KM w c2 c3 c4 b O nm d0 d1 d2 d3 d4 W) : W.cell? ⟨w.heap.size, 4, none⟩ = some c4 ∧ W.cell? ⟨b, O, none⟩ = some nm ∧ W.cell? ⟨b, O + 1, none⟩ = some d0 ∧ W.cell? ⟨b, O + 1 + 1, none⟩ = some d1 ∧ W.cell? ⟨b, O + 1 + 2, none⟩ = some d2 ∧ W.cell? ⟨b, O + 1 + 3, none⟩ = some d3 ∧ W.cell? ⟨b, O + 1 + 4, none⟩ = some d4 ∧ KM w c2 c3 c4 b O nm d0 d1 d2 d3 d4 W :=
  ⟨h.1, h.2.1, h.2.2.1.1, h.2.2.1.2.1, h.2.2.1.2.2.1, h.2.2.1.2.2.2.1, h.2.2.1.2.2.2.2, h⟩
theorem vret {a b : Nat} (h : b = a) : Ending.returned (.int .i64 (W64 a)) = .returned (.int .i64 (W64 b)) := by rw [h]
theorem W64_two (a b c : Nat) : IntKind.i64.wrap (IntKind.i64.wrap (W64 a + (b : Int)) + W64 c) = W64 (a + b + c) := by
  rw [W64_plus, W64_add]

end Go.Proofs.Ytgihnhdknphhpaa
