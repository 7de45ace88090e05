/- graph.firsts, graph's places. (gen_grfst.py wrote it.) -/
import Derived.Test.YtgihnhdknphhpaaGrSpr
namespace Go.Proofs.Ytgihnhdknphhpaa
open Go.RowKit

theorem gbelow_grown {B : Nat} {w w' w'' : World} {r : Option Nat} (h : Below B w w') (hg : w'.grownBy w'' r) (hB : B ≤ w'.heap.size) (hr : ∀ b, r = some b → B ≤ b) : Below B w w'' :=
  ⟨hg.os.trans h.os, hg.tape.trans h.tape, hg.output.trans h.output, Nat.le_trans h.size hg.size, fun b hb => (hg.block b (by omega) (fun e => by have := hr b e.symm; omega)).trans (h.block b hb)⟩
def namesF (D : DocT) : List ByteArray := D.frags.map (·.name)
/-- The places of these names. -/
def plcN (N : List ByteArray) (l : List ByteArray) : List Nat := l.filterMap fun s => if inN N s = true then some (fstIx N s) else none
theorem plc_next {N l : List ByteArray} {i : Nat} {s : ByteArray} (h : l[i]? = some s) : plcN N (l.take (i + 1)) = plcN N (l.take i) ++ (if inN N s = true then [fstIx N s] else []) := by
  unfold plcN
  rw [List.take_add_one, h, List.filterMap_append]
  congr 1
  cases hb : inN N s <;> simp [hb]
theorem plc_size (N l : List ByteArray) (i : Nat) : (plcN N (l.take i)).length ≤ i := Nat.le_trans (List.length_filterMap_le ..) (by rw [List.length_take]; omega)
theorem FirstM.below {w w' : World} {M : Nat} {N : List ByteArray} (h : FirstM w M N) (hb : Below w.heap.size w w') : FirstM w' M N := h.one (hb.block M h.lt)
theorem gint_row : ∃ i z, Try.prog.info? 3 = some i ∧ i.zero = some z ∧ i.size = 1 ∧ i.bytes = 8 ∧ z.cells.size = 1 := ginfo_of (by kernel_rfl)
theorem gmap_other {w w' : World} {n b : Nat} (h : w.grownBy w' (some b)) (hn : n ≤ b) (hb : n ≤ w.heap.size) : Below n w w' := ⟨h.os, h.tape, h.output, h.size, fun k hk => h.block k (by omega) (fun e => by injection e; omega)⟩
end Go.Proofs.Ytgihnhdknphhpaa
