/- The walks of seineref1.Same and seineref1.Members: by induction on the tree. -/
import Derived.Test.YtohkimibphleaaaVSize
import Derived.Deep.QuietTactic
import Derived.BigQuiet
import Derived.Deep.Draws
namespace Go.Proofs.Ytohkimibphleaaa
open Go.RowKit

theorem vaside {p : Prop} (h : p) : Aside p := h
theorem vbelow_draws {B : Nat} {a w : World} (h : Below B a w) (n : Nat) : Below B a (w.drewN n) := ⟨h.os, h.tape, h.output, h.size, h.block⟩
theorem VL.ext : ∀ {l l' : VL}, l.len = l'.len → (∀ j, j < l.len → l.get j = l'.get j) → l = l'
  | .nil, .nil, _, _ => rfl
  | .nil, .cons _ _, h, _ => by simp [VL.len] at h
  | .cons _ _, .nil, h, _ => by simp [VL.len] at h
  | .cons u t, .cons u' t', h, hg => by
    have h0 : u = u' := by simpa [VL.get] using hg 0 (by rw [VL.len]; omega)
    have ht : t = t' := VL.ext (by simp only [VL.len] at h; omega) (fun j hj => by simpa [VL.get] using hg (j + 1) (by rw [VL.len]; omega))
    rw [h0, ht]
theorem VM.ext : ∀ {l l' : VM}, l.len = l'.len → (∀ j, j < l.len → l.get j = l'.get j) → l = l'
  | .nil, .nil, _, _ => rfl
  | .nil, .cons _ _ _, h, _ => by simp [VM.len] at h
  | .cons _ _ _, .nil, h, _ => by simp [VM.len] at h
  | .cons x u t, .cons x' u' t', h, hg => by
    have h0 : x = x' ∧ u = u' := by simpa [VM.get] using hg 0 (by rw [VM.len]; omega)
    have ht : t = t' := VM.ext (by simp only [VM.len] at h; omega) (fun j hj => by simpa [VM.get] using hg (j + 1) (by rw [VM.len]; omega))
    rw [h0.1, h0.2, ht]
/-- The first q agree. -/
def AgreeL (l l' : VL) (q : Nat) : Prop := ∀ j, j < q → l.get j = l'.get j
def AgreeM (l l' : VM) (q : Nat) : Prop := ∀ j, j < q → l.get j = l'.get j
theorem AgreeL.next {l l' : VL} {q : Nat} {v : VT} (h : AgreeL l l' q) (h1 : l.get q = some v) (h2 : l'.get q = some v) : AgreeL l l' (q + 1) := fun j hj => by
  rcases Nat.lt_or_ge j q with h' | h'
  · exact h j h'
  · obtain rfl : j = q := by omega
    rw [h1, h2]
theorem AgreeM.next {l l' : VM} {q : Nat} {v : ByteArray × VT} (h : AgreeM l l' q) (h1 : l.get q = some v) (h2 : l'.get q = some v) : AgreeM l l' (q + 1) := fun j hj => by
  rcases Nat.lt_or_ge j q with h' | h'
  · exact h j h'
  · obtain rfl : j = q := by omega
    rw [h1, h2]

theorem vsaid {p q : Prop} {b : Bool} (h : b = true ↔ p) (hq : q) : (∃ b', Ending.returned (.bool b) = .returned (.bool b') ∧ (b' = true ↔ p)) ∧ q := ⟨⟨b, rfl, h⟩, hq⟩
theorem yes_if {p : Prop} (h : p) : true = true ↔ p := ⟨fun _ => h, fun _ => rfl⟩
theorem not_if {p : Prop} (h : ¬ p) : false = true ↔ p := ⟨fun e => by simp at e, fun e => absurd e h⟩
/-- Two members at hand. -/
def KE (w : World) (b O : Nat) (nm d0 d1 d2 d3 d4 : Value) (b' O' : Nat) (nm' f0 f1 f2 f3 f4 : Value) (W : World) : Prop :=
  W.cell? ⟨b, O, none⟩ = some nm ∧ Five W b (O + 1) d0 d1 d2 d3 d4 ∧ W.cell? ⟨b', O', none⟩ = some nm' ∧ Five W b' (O' + 1) f0 f1 f2 f3 f4 ∧ Below w.heap.size w W
theorem KE.next {w W W' : World} {b O : Nat} {nm d0 d1 d2 d3 d4 : Value} {b' O' : Nat} {nm' f0 f1 f2 f3 f4 : Value} (h : KE w b O nm d0 d1 d2 d3 d4 b' O' nm' f0 f1 f2 f3 f4 W) (hl : b < w.heap.size) (hl' : b' < w.heap.size) (hb : Below W.heap.size W W') : KE w b O nm d0 d1 d2 d3 d4 b' O' nm' f0 f1 f2 f3 f4 W' := by
  obtain ⟨h1, h2, h3, h4, hB⟩ := h
  have g := Nat.lt_of_lt_of_le hl hB.size
  have g' := Nat.lt_of_lt_of_le hl' hB.size
  exact ⟨(hb.cell (p := ⟨b, _, none⟩) g).trans h1, h2.below hb g, (hb.cell (p := ⟨b', _, none⟩) g').trans h3, h4.below hb g', hB.trans (hb.mono hB.size)⟩
theorem KE.written {w W : World} {b O : Nat} {nm d0 d1 d2 d3 d4 : Value} {b' O' : Nat} {nm' f0 f1 f2 f3 f4 : Value} (h : KE w b O nm d0 d1 d2 d3 d4 b' O' nm' f0 f1 f2 f3 f4 W) :
    W.cell? ⟨b, O, none⟩ = some nm ∧ W.cell? ⟨b, O + 1, none⟩ = some d0 ∧ W.cell? ⟨b, O + 1 + 1, none⟩ = some d1 ∧ W.cell? ⟨b, O + 1 + 2, none⟩ = some d2 ∧ W.cell? ⟨b, O + 1 + 3, none⟩ = some d3 ∧ W.cell? ⟨b, O + 1 + 4, none⟩ = some d4 ∧
    W.cell? ⟨b', O', none⟩ = some nm' ∧ W.cell? ⟨b', O' + 1, none⟩ = some f0 ∧ W.cell? ⟨b', O' + 1 + 1, none⟩ = some f1 ∧ W.cell? ⟨b', O' + 1 + 2, none⟩ = some f2 ∧ W.cell? ⟨b', O' + 1 + 3, none⟩ = some f3 ∧ W.cell? ⟨b', O' + 1 + 4, none⟩ = some f4 ∧
    KE w b O nm d0 d1 d2 d3 d4 b' O' nm' f0 f1 f2 f3 f4 W :=
  ⟨h.1, h.2.1.1, h.2.1.2.1, h.2.1.2.2.1, h.2.1.2.2.2.1, h.2.1.2.2.2.2, h.2.2.1, h.2.2.2.1.1, h.2.2.2.1.2.1, h.2.2.2.1.2.2.1, h.2.2.2.1.2.2.2.1, h.2.2.2.1.2.2.2.2, h⟩

end Go.Proofs.Ytohkimibphleaaa
