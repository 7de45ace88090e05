/- The walk of letters.Units: the units of a text's code points, in new memory. -/
import Derived.Test.YtnmidlbhkjcimaaDoorKept
import Derived.Test.YtnmidlbhkjcimaaDoorZMath
import Derived.Laws.AppendOwn
import Derived.Deep.AppendLies
namespace Go.Proofs.YtnmidlbhkjcimaaDoor
open Go.RowKit

/-- The variable in block b holds a slice of the call's own that reads as us. -/
def OutAt (b : Nat) (us : List Int) (w : World) : Prop :=
  ∃ v, w.heap[b]? = some (.cells #[v] 64 (0, 0)) ∧ w.ownsRow (b + 1) 3 1 v us.length (us.map (Value.int .i64))
theorem OutAt.lt {b : Nat} {us : List Int} {w : World} (h : OutAt b us w) : b < w.heap.size := by
  obtain ⟨v, hb, _⟩ := h
  rcases Nat.lt_or_ge b w.heap.size with h' | h'
  · exact h'
  · rw [Array.getElem?_eq_none h'] at hb; cases hb
theorem grown_of {w w' : World} (h : Below w.heap.size w w') : w.grownBy w' none := ⟨h.os, h.tape, h.output, h.size, fun i hi _ => h.block i hi⟩
theorem own_none (v : Value) : v.ownBlock = none ∨ v.ownBlock ≠ none := Classical.em _
theorem OutAt.below {b : Nat} {us : List Int} {w w' : World} (h : OutAt b us w) (hb : Below w.heap.size w w') : OutAt b us w' := by
  have hl := h.lt
  obtain ⟨v, h1, h2⟩ := h
  exact ⟨v, (hb.block b hl).trans h1, h2.kept (grown_of hb) (own_none _)⟩

theorem heap_alloc_lt (w : World) (o : Obj) (b : Nat) (h : b < w.heap.size) : (w.alloc o).heap[b]? = w.heap[b]? := Below.heap_alloc w o b h
theorem own_form {w : World} {base : Nat} {e : TypeId} {v : Value} {n : Nat} {xs : List Value} (h : w.ownsRow base e 1 v n xs) : ∃ A cap, v = .slice A n cap := by
  rcases h.2 with ⟨hv, hn⟩ | ⟨g, cap, cur, hv, _⟩
  · exact ⟨none, 0, by rw [hv, hn]⟩
  · exact ⟨_, _, hv⟩
theorem box_kept {w w3 : World} {b n : Nat} {o : Obj} {x v : Value} {e T : TypeId} {xs : List Value} (hb : w.heap[b]? = some (.cells #[x] T (0, 0))) (hlt : b < w.heap.size) (hown : w.ownsRow (b + 1) e 1 v n xs) (hg : (w.alloc o).grownBy w3 v.ownBlock) :
    w3.cell? ⟨b, 0, none⟩ = some x ∧ w3.frozen? ⟨b, 0, none⟩ = false ∧ Hid (w3.heap[b]? = some (.cells #[x] T (0, 0))) := by
  have hb3 : w3.heap[b]? = some (.cells #[x] T (0, 0)) := by
    rw [hg.block b (by simp; omega) (fun e => by have := (hown.lt b e.symm).1; omega), heap_alloc_lt w _ b hlt]
    exact hb
  exact ⟨by simp [World.cell?, hb3], by simp [World.frozen?, hb3], Lib.hid hb3⟩
theorem two_new (w : World) (t : TypeId) (x y : Value) : ∀ (j : Nat) u, [x, y][j]? = some u → (w.alloc (.cells #[x, y] t)).cell? ((⟨w.heap.size, 0, none⟩ : Addr).add j) = some u := by
  intro j u hj
  match j, hj with
  | 0, hj => cases hj; show World.cell? _ ⟨w.heap.size, 0, none⟩ = _; rw [World.cell?_alloc_at _ _ _ _ rfl]; rfl
  | 1, hj => cases hj; show World.cell? _ ⟨w.heap.size, 1, none⟩ = _; rw [World.cell?_alloc_at _ _ _ _ rfl]; rfl
  | j + 2, hj => simp at hj

def UnitsTo (l : List UInt8) (k : Nat) (b : Nat) (w : World) : Prop := ∃ cs, cs.length ≤ k ∧ OutAt b (unitsOf cs) w ∧ (codes (l.drop k)).map (fun r => cs ++ r) = codes l
theorem unitsOf_len : ∀ cs : List Int, (unitsOf cs).length ≤ 2 * cs.length := by
  intro cs
  induction cs with
  | nil => simp [unitsOf]
  | cons c cs ih =>
    show (unitOf c ++ unitsOf cs).length ≤ _
    rw [List.length_append, List.length_cons]
    have : (unitOf c).length ≤ 2 := by unfold unitOf; split <;> simp
    omega
theorem unitsOf_snoc (cs : List Int) (c : Int) : unitsOf (cs ++ [c]) = unitsOf cs ++ unitOf c := by simp [unitsOf]

/-- The units of a text; none, if it is not good. -/
def unitsS (l : List UInt8) : List Int := match codes l with | some cs => unitsOf cs | none => []
theorem ints_of_own {w : World} {base n : Nat} {A : Option Addr} {cap : Nat} {us : List Int} (h : w.ownsRow base 3 1 (.slice A n cap) us.length (us.map (Value.int .i64))) : n = us.length ∧ IntsAt w w.heap.size A us.length us := by
  rcases h.2 with ⟨hv, hn⟩ | ⟨g, c, cur, hv, hbase, hh, hnc, hm, hcs, htk⟩
  · injection hv with h1 h2 h3
    have hus : us = [] := List.eq_nil_of_length_eq_zero hn
    subst hus
    exact ⟨by simpa using h2, ⟨rfl, fun j z hz => by simp at hz⟩⟩
  · have hv' := hv
    injection hv' with h1 h2 h3
    subst h1
    refine ⟨h2, rfl, fun j z hz => ⟨g, 0, rfl, ?_, ?_⟩⟩
    · exact (h.lt g rfl).2
    · subst h2 h3
      rw [Nat.zero_add, World.ownsRow.cellAt h j (by have := (List.getElem?_eq_some_iff.1 hz).1; omega), List.getElem?_map, hz]
      rfl

end Go.Proofs.YtnmidlbhkjcimaaDoor
