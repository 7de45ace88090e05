/- What the laws of bind share: boxes that stand, and what a schema that may be served has. (gen_bgets.py wrote it.) -/
import Derived.Test.YtaekdfcpbepepaaGreatDoorQb46
namespace Go.Proofs.YtaekdfcpbepepaaGreatDoor
open Go.RowKit

/-- All that was stands, and these boxes. -/
def Kp (w : World) (l : List (Nat × Obj)) (W : World) : Prop := Below w.heap.size w W ∧ ∀ p, p ∈ l → W.heap[p.1]? = some p.2
theorem Kp.next {w W W' : World} {l : List (Nat × Obj)} (h : Kp w l W) (hb : Below W.heap.size W W') : Kp w l W' :=
  ⟨h.1.trans (hb.mono h.1.size), fun p hp => (hb.block _ (Array.getElem?_eq_some_iff.1 (h.2 p hp)).1).trans (h.2 p hp)⟩
theorem Kp.put {w W : World} {l : List (Nat × Obj)} (h : Kp w l W) (o : Obj) : Kp w ((W.heap.size, o) :: l) (W.alloc o) :=
  ⟨(h.next (dbelow_new W o)).1, fun p hp => by
    rcases List.mem_cons.1 hp with rfl | hp
    · exact heap_alloc_new W o
    · exact (h.next (dbelow_new W o)).2 p hp⟩
theorem Kp.tail {w W : World} {l : List (Nat × Obj)} {p : Nat × Obj} (h : Kp w (p :: l) W) : Kp w l W := ⟨h.1, fun q hq => h.2 q (List.mem_cons_of_mem _ hq)⟩
theorem Kp.h0 {w W : World} {l : List (Nat × Obj)} {g : Nat} {o : Obj} (h : Kp w ((g, o) :: l) W) : W.heap[g]? = some o := h.2 (g, o) (List.mem_cons_self ..)
theorem Kp.h1 {w W : World} {l : List (Nat × Obj)} {p : Nat × Obj} {g : Nat} {o : Obj} (h : Kp w (p :: (g, o) :: l) W) : W.heap[g]? = some o := h.tail.h0
theorem Kp.h2 {w W : World} {l : List (Nat × Obj)} {p p' : Nat × Obj} {g : Nat} {o : Obj} (h : Kp w (p :: p' :: (g, o) :: l) W) : W.heap[g]? = some o := h.tail.tail.h0
theorem Kp.h3 {w W : World} {l : List (Nat × Obj)} {p p' p2 : Nat × Obj} {g : Nat} {o : Obj} (h : Kp w (p :: p' :: p2 :: (g, o) :: l) W) : W.heap[g]? = some o := h.tail.tail.tail.h0
/-- In a schema that may be served each field of an object has a source. -/
theorem serv_of {S : SchT} (h : servB S = true) {d : DefnT} (hd : d ∈ S.defs) (hk : (d.kind == 1) = true) {f : FieldT} (hf : f ∈ d.fields) : ofOkB S d.name f = true ∧ ofT S d.name f = ((sourceT f.dirs f.name).1, true) := by
  unfold servB at h
  rw [Bool.and_eq_true] at h
  have h1 := List.all_eq_true.1 h.2 d hd
  unfold servD at h1
  rw [hk] at h1
  have h2 : boundB S d = true := h1
  unfold boundB at h2
  have h3 := List.all_eq_true.1 h2 f hf
  unfold ofT at h3 ⊢
  by_cases e : ofOkB S d.name f = true
  · exact ⟨e, by rw [if_pos e]⟩
  · rw [if_neg e] at h3
    cases h3
theorem of_parts {S : SchT} {typ : ByteArray} {f : FieldT} (h : ofOkB S typ f = true) : (sourceT f.dirs f.name).2 = true ∧ fitsT S f (sourceT f.dirs f.name).1 = true ∧ ((sourceT f.dirs f.name).1.how == 3) = changesB S typ := by
  unfold ofOkB at h
  rw [Bool.and_eq_true, Bool.and_eq_true, Bool.and_eq_true] at h
  exact ⟨h.1, h.2.2.1, eq_of_beq h.2.2.2⟩
end Go.Proofs.YtaekdfcpbepepaaGreatDoor
