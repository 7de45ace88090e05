/- Slices of strings: what they read as, kept while nothing below turns; small words for walks. -/
import Derived.Test.YtmamgaifpjgfkaaChecked
import Derived.Test.YtmamgaifpjgfkaaBMath
import Derived.WalkKit
import Derived.Deep.LoopGhost
import Derived.Below
import Derived.Lib.Hide
import Derived.Laws.AppendOwn
import Derived.Laws.MakeOwn
import Derived.Laws.AppendOwnNone
import Derived.Deep.AppendLies
import Derived.Deep.QuietTactic
import Derived.BigQuiet
import Derived.Deep.Draws
namespace Go.Proofs.Ytmamgaifpjgfkaa.Blk
open Go.RowKit

theorem Aside.intro {p : Prop} (h : p) : Aside p := h
theorem ret_bool {a b : Bool} (h : a = b) : Ending.returned (.bool a) = .returned (.bool b) := by rw [h]
theorem ret_int {a b : Int} (h : a = b) : Ending.returned (.int .i64 a) = .returned (.int .i64 b) := by rw [h]
theorem ret_str {a b : ByteArray} (h : a = b) : Ending.returned (.string a) = .returned (.string b) := by rw [h]
theorem below_draws {B : Nat} {a w : World} (h : Below B a w) (n : Nat) : Below B a (w.drewN n) := ⟨h.os, h.tape, h.output, h.size, h.block⟩
theorem take_both {α : Type} {xs ys : List α} {k : Nat} {x : α} (h : xs.take k = ys.take k) (ha : xs[k]? = some x) (hb : ys[k]? = some x) : xs.take (k + 1) = ys.take (k + 1) := by
  rw [List.take_add_one, List.take_add_one, h, ha, hb]
theorem grown_of {w w' : World} (h : Below w.heap.size w w') : w.grownBy w' none := ⟨h.os, h.tape, h.output, h.size, fun i hi _ => h.block i hi⟩
theorem own_none (v : Value) : v.ownBlock = none ∨ v.ownBlock ≠ none := Classical.em _
theorem own_form {w : World} {base : Nat} {e : TypeId} {v : Value} {n : Nat} {xs : List Value} (h : w.ownsRow base e 1 v n xs) : ∃ A cap, v = .slice A n cap := by
  rcases h.2 with ⟨hv, hn⟩ | ⟨g, cap, cur, hv, _⟩
  · exact ⟨none, 0, by rw [hv, hn]⟩
  · exact ⟨_, _, hv⟩

/-- A slice of strings that lies below block B and reads as xs. -/
def StrsAt (w : World) (B : Nat) (A : Option Addr) (n : Nat) (xs : List ByteArray) : Prop :=
  xs.length = n ∧ ∀ (j : Nat) x, xs[j]? = some x → ∃ b o, A = some ⟨b, o, none⟩ ∧ b < B ∧ w.cell? ⟨b, o + j, none⟩ = some (.string x)
theorem StrsAt.below {w w' : World} {B : Nat} {A : Option Addr} {n : Nat} {xs : List ByteArray} (h : StrsAt w B A n xs) (hb : Below B w w') : StrsAt w' B A n xs :=
  ⟨h.1, fun j z hz => by
    obtain ⟨b, o, e, hlt, hc⟩ := h.2 j z hz
    exact ⟨b, o, e, hlt, (hb.cell (p := ⟨b, o + j, none⟩) hlt).trans hc⟩⟩
theorem StrsAt.more {w : World} {B B' : Nat} {A : Option Addr} {n : Nat} {xs : List ByteArray} (h : StrsAt w B A n xs) (hB : B ≤ B') : StrsAt w B' A n xs :=
  ⟨h.1, fun j z hz => by
    obtain ⟨b, o, e, hlt, hc⟩ := h.2 j z hz
    exact ⟨b, o, e, by omega, hc⟩⟩
theorem StrsAt.on {w w' : World} {A : Option Addr} {n : Nat} {xs : List ByteArray} (h : StrsAt w w.heap.size A n xs) (hb : Below w.heap.size w w') : StrsAt w' w'.heap.size A n xs := (h.below hb).more hb.size
theorem StrsAt.init {w : World} {B n : Nat} {A : Option Addr} {xs : List ByteArray} {y : ByteArray} (h : StrsAt w B A (n + 1) (xs ++ [y])) : StrsAt w B A n xs := by
  have hl : xs.length = n := by have := h.1; rw [List.length_append] at this; simpa using this
  refine ⟨hl, fun j z hz => h.2 j z ?_⟩
  rw [List.getElem?_append_left (List.getElem?_eq_some_iff.1 hz).1]
  exact hz
theorem strs_of_own {w : World} {base n : Nat} {A : Option Addr} {cap : Nat} {xs : List ByteArray} (h : w.ownsRow base 9 1 (.slice A n cap) xs.length (xs.map Value.string)) : n = xs.length ∧ StrsAt w w.heap.size A xs.length xs := by
  rcases h.2 with ⟨hv, hn⟩ | ⟨g, c, cur, hv, hbase, hh, hnc, hm, hcs, htk⟩
  · injection hv with h1 h2 h3
    have hus : xs = [] := List.eq_nil_of_length_eq_zero hn
    subst hus
    exact ⟨by simpa using h2, ⟨rfl, fun j z hz => by simp at hz⟩⟩
  · have hv' := hv
    injection hv' with h1 h2 h3
    subst h1
    refine ⟨h2, rfl, fun j z hz => ⟨g, 0, rfl, ?_, ?_⟩⟩
    · exact (h.lt g rfl).2
    · subst h2 h3
      rw [Nat.zero_add, World.ownsRow.cellAt h j (by have := (List.getElem?_eq_some_iff.1 hz).1; omega), List.getElem?_map, hz]
      rfl
theorem strs_own_cap {w : World} {base n m : Nat} {A : Option Addr} {cap : Nat} {xs : List ByteArray} (h : w.ownsRow base 9 1 (.slice A m cap) n (xs.map Value.string)) (hn : 0 < n) : ∃ g, A = some ⟨g, 0, none⟩ ∧ m = n ∧ n ≤ cap ∧ StrsAt w w.heap.size A n xs := by
  have hl : xs.length = n := by have := h.1; rw [List.length_map] at this; omega
  subst hl
  rcases h.2 with ⟨_, h0⟩ | ⟨g, c, cur, hv, _, _, hnc, _⟩
  · omega
  · have hi := strs_of_own h
    injection hv with h1 h2 h3
    exact ⟨g, h1, h2, by omega, hi.2⟩
end Go.Proofs.Ytmamgaifpjgfkaa.Blk
