/- A slice of ints that comes in, opened: its length, and its numbers in memory that was there. -/
import Derived.Test.YtfoocpidahiglaaGreatDoorTFrame
import Derived.Test.YtfoocpidahiglaaGreatDoorJoin
namespace Go.Proofs.YtfoocpidahiglaaGreatDoor
open Go.ChangeShapes Go.WideShapes Go.ChangeAt Go.RowKit

set_option maxRecDepth 100000 in
theorem open_slice {H : Type} {enc : TypeId × Value → H} {W : World} {base : Nat} {v : Value} {d : DataW H} {ps : List MemPlace} (hval : Value.okWide Tryz.prog W .any base 38 v) (hd : DataW.Trod enc Tryz.prog W 0 (fun _ => true) true 38 v d ps) :
    ∃ (A : Option Addr) (n c : Nat) (zs : List Int), v = .slice A n c ∧ IntsAt W W.heap.size A n zs ∧ (∀ z ∈ zs, (Lit.int .i64 z).wf = true) ∧ (A = none → n = 0 ∧ c = 0) := by
  obtain ⟨A, n, c, rfl⟩ := okWide_slice Tryz.underlying38 hval
  obtain ⟨fuel, hf⟩ := hd
  rcases open_ints Tryz.underlying38 Tryz.underlying3 cellsInt hf with ⟨hcs, _⟩ | ⟨a, len, cap, zs, hcs, _, hl, hm, hz, _, hcell, hw⟩
  · simp [Value.cells] at hcs
    obtain ⟨rfl, rfl, rfl⟩ := hcs
    exact ⟨none, 0, 0, [], rfl, ⟨rfl, fun j z hz => by simp at hz⟩, fun z hz => (by simp at hz), fun _ => ⟨rfl, rfl⟩⟩
  · simp [Value.cells] at hcs
    obtain ⟨rfl, rfl, rfl⟩ := hcs
    simp only [if_true] at hz
    refine ⟨some a, n, c, zs.take n, rfl, ⟨by rw [List.length_take]; omega, fun j z hjz => ?_⟩, fun z hz' => hw z (List.mem_of_mem_take hz'), fun h => by cases h⟩
    rw [List.getElem?_take] at hjz
    split at hjz
    · rename_i hj
      have hjl := (List.getElem?_eq_some_iff.1 hjz).1
      have hc := hcell j hjl
      have hz' : zs.getD j 0 = z := by rw [List.getD_eq_getElem?_getD, hjz]; rfl
      rw [hz'] at hc
      obtain ⟨b, off, spot⟩ := a
      have hspot : spot = none := by
        have h0 := hcell 0 (by omega)
        simpa [Addr.add] using World.cell?_spot h0
      subst hspot
      refine ⟨b, off, rfl, ?_, by rw [← add_plain]; exact hc⟩
      rw [add_plain] at hc
      rcases Nat.lt_or_ge b W.heap.size with h' | h'
      · exact h'
      · simp [World.cell?, Array.getElem?_eq_none h'] at hc
    · cases hjz
end Go.Proofs.YtfoocpidahiglaaGreatDoor
