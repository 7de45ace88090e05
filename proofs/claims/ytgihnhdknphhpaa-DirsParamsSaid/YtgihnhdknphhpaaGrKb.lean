/- Boxes that stand. -/
import Derived.Test.YtgihnhdknphhpaaGrRow
import Derived.Deep.Cut
namespace Go.Proofs.Ytgihnhdknphhpaa
open Go.RowKit

def Asd (p : Prop) : Prop := p
theorem Asd.intro {p : Prop} (h : p) : Asd p := h
theorem Asd.out {p : Prop} (h : Asd p) : p := h
theorem gnew (w : World) (o : Obj) : Below w.heap.size w (w.alloc o) := (Below.refl _ _).alloc (Nat.le_refl _) _
/-- All that was stands, and these boxes. -/
def KB (w : World) (l : List (Nat × Obj)) (W : World) : Prop := Below w.heap.size w W ∧ ∀ p, p ∈ l → W.heap[p.1]? = some p.2
theorem KB.start (w : World) : KB w [] w := ⟨Below.refl _ _, fun p hp => by cases hp⟩
theorem KB.next {w W W' : World} {l : List (Nat × Obj)} (h : KB w l W) (hb : Below W.heap.size W W') : KB w l W' :=
  ⟨h.1.trans (hb.mono h.1.size), fun p hp => (hb.block _ (Array.getElem?_eq_some_iff.1 (h.2 p hp)).1).trans (h.2 p hp)⟩
theorem KB.put {w W : World} {l : List (Nat × Obj)} (h : KB w l W) (o : Obj) : KB w ((W.heap.size, o) :: l) (W.alloc o) :=
  ⟨(h.next (gnew W o)).1, fun p hp => by
    rcases List.mem_cons.1 hp with rfl | hp
    · exact heap_alloc_new W o
    · exact (h.next (gnew W o)).2 p hp⟩
theorem KB.tail {w W : World} {l : List (Nat × Obj)} {p : Nat × Obj} (h : KB w (p :: l) W) : KB w l W := ⟨h.1, fun q hq => h.2 q (List.mem_cons_of_mem _ hq)⟩
theorem KB.h0 {w W : World} {l : List (Nat × Obj)} {g : Nat} {o : Obj} (h : KB w ((g, o) :: l) W) : W.heap[g]? = some o := h.2 (g, o) (List.mem_cons_self ..)
theorem KB.h1 {w W : World} {l : List (Nat × Obj)} {p : Nat × Obj} {g : Nat} {o : Obj} (h : KB w (p :: (g, o) :: l) W) : W.heap[g]? = some o := h.tail.h0
theorem KB.h2 {w W : World} {l : List (Nat × Obj)} {p p' : Nat × Obj} {g : Nat} {o : Obj} (h : KB w (p :: p' :: (g, o) :: l) W) : W.heap[g]? = some o := h.tail.tail.h0
/-- A box of one's own is set. -/
theorem KB.set {w W W' : World} {l : List (Nat × Obj)} {g : Nat} {o o' : Obj} (h : KB w ((g, o) :: l) W) (hg : w.heap.size ≤ g) (hl : ∀ p, p ∈ l → p.1 ≠ g) (hb : Below g W W') (hk : ∀ b, b ≠ g → b < W.heap.size → W'.heap[b]? = W.heap[b]?) (ho : W'.heap[g]? = some o') : KB w ((g, o') :: l) W' :=
  ⟨h.1.trans (hb.mono hg), fun p hp => by
    rcases List.mem_cons.1 hp with rfl | hp
    · exact ho
    · rw [hk _ (hl p hp) (Array.getElem?_eq_some_iff.1 (h.2 p (List.mem_cons_of_mem _ hp))).1]
      exact h.2 p (List.mem_cons_of_mem _ hp)⟩
theorem set_other {w : World} {g i b : Nat} {v : Value} (h : b ≠ g) : (w.setCell ⟨g, i, none⟩ v).heap[b]? = w.heap[b]? := by
  simp [World.setCell, Array.getElem?_modify, Ne.symm h]
theorem gcells1 {w : World} {g : Nat} {c0 : Value} {t : TypeId} (h : w.heap[g]? = some (.cells #[c0] t (0, 0))) : (w.cell? ⟨g, 0, none⟩ = some c0) ∧ w.frozen? ⟨g, 0, none⟩ = false := by
  simp [World.cell?, World.frozen?, h]
theorem gcells2 {w : World} {g : Nat} {c0 c1 : Value} {t : TypeId} (h : w.heap[g]? = some (.cells #[c0, c1] t (0, 0))) : (w.cell? ⟨g, 0, none⟩ = some c0 ∧ w.cell? ⟨g, 1, none⟩ = some c1) ∧ w.frozen? ⟨g, 0, none⟩ = false ∧ w.frozen? ⟨g, 1, none⟩ = false := by
  simp [World.cell?, World.frozen?, h]
theorem gcells3 {w : World} {g : Nat} {c0 c1 c2 : Value} {t : TypeId} (h : w.heap[g]? = some (.cells #[c0, c1, c2] t (0, 0))) : (w.cell? ⟨g, 0, none⟩ = some c0 ∧ w.cell? ⟨g, 1, none⟩ = some c1 ∧ w.cell? ⟨g, 2, none⟩ = some c2) ∧ w.frozen? ⟨g, 0, none⟩ = false ∧ w.frozen? ⟨g, 1, none⟩ = false ∧ w.frozen? ⟨g, 2, none⟩ = false := by
  simp [World.cell?, World.frozen?, h]
theorem gcells4 {w : World} {g : Nat} {c0 c1 c2 c3 : Value} {t : TypeId} (h : w.heap[g]? = some (.cells #[c0, c1, c2, c3] t (0, 0))) : (w.cell? ⟨g, 0, none⟩ = some c0 ∧ w.cell? ⟨g, 1, none⟩ = some c1 ∧ w.cell? ⟨g, 2, none⟩ = some c2 ∧ w.cell? ⟨g, 3, none⟩ = some c3) ∧ w.frozen? ⟨g, 0, none⟩ = false ∧ w.frozen? ⟨g, 1, none⟩ = false ∧ w.frozen? ⟨g, 2, none⟩ = false ∧ w.frozen? ⟨g, 3, none⟩ = false := by
  simp [World.cell?, World.frozen?, h]
theorem gcells5 {w : World} {g : Nat} {c0 c1 c2 c3 c4 : Value} {t : TypeId} (h : w.heap[g]? = some (.cells #[c0, c1, c2, c3, c4] t (0, 0))) : (w.cell? ⟨g, 0, none⟩ = some c0 ∧ w.cell? ⟨g, 1, none⟩ = some c1 ∧ w.cell? ⟨g, 2, none⟩ = some c2 ∧ w.cell? ⟨g, 3, none⟩ = some c3 ∧ w.cell? ⟨g, 4, none⟩ = some c4) ∧ w.frozen? ⟨g, 0, none⟩ = false ∧ w.frozen? ⟨g, 1, none⟩ = false ∧ w.frozen? ⟨g, 2, none⟩ = false ∧ w.frozen? ⟨g, 3, none⟩ = false ∧ w.frozen? ⟨g, 4, none⟩ = false := by
  simp [World.cell?, World.frozen?, h]
theorem gcells7 {w : World} {g : Nat} {c0 c1 c2 c3 c4 c5 c6 : Value} {t : TypeId} (h : w.heap[g]? = some (.cells #[c0, c1, c2, c3, c4, c5, c6] t (0, 0))) : (w.cell? ⟨g, 0, none⟩ = some c0 ∧ w.cell? ⟨g, 1, none⟩ = some c1 ∧ w.cell? ⟨g, 2, none⟩ = some c2 ∧ w.cell? ⟨g, 3, none⟩ = some c3 ∧ w.cell? ⟨g, 4, none⟩ = some c4 ∧ w.cell? ⟨g, 5, none⟩ = some c5 ∧ w.cell? ⟨g, 6, none⟩ = some c6) ∧ w.frozen? ⟨g, 0, none⟩ = false ∧ w.frozen? ⟨g, 1, none⟩ = false ∧ w.frozen? ⟨g, 2, none⟩ = false ∧ w.frozen? ⟨g, 3, none⟩ = false ∧ w.frozen? ⟨g, 4, none⟩ = false ∧ w.frozen? ⟨g, 5, none⟩ = false ∧ w.frozen? ⟨g, 6, none⟩ = false := by
  simp [World.cell?, World.frozen?, h]
end Go.Proofs.Ytgihnhdknphhpaa
