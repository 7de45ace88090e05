/- A row of texts of one's own; a text more. -/
import Derived.Test.YtnmidlbhkjcimaaDoorVHas
import Derived.Test.YtnmidlbhkjcimaaDoorVBox
import Derived.Test.YtnmidlbhkjcimaaDoorZGood
namespace Go.Proofs.YtnmidlbhkjcimaaDoor
open Go.RowKit

/-- A row of texts of one's own. -/
def SR (base : Nat) (W : World) (V : Value) (xs : List ByteArray) : Prop := W.ownsRow base 9 1 V xs.length (xs.map .string)
theorem SR.nil (base : Nat) (W : World) : SR base W (.slice none 0 0) [] := World.ownsRow_nil _ _ _ _
theorem SR.low {base : Nat} {W W' : World} {V : Value} {xs : List ByteArray} (h : SR base W V xs) (hb : Below W.heap.size W W') : SR base W' V xs := own_low h hb
theorem SR.strs {base : Nat} {W : World} {V : Value} {xs : List ByteArray} (h : SR base W V xs) : ∃ A c, V = .slice A xs.length c ∧ Blk.StrsAt W W.heap.size A xs.length xs := by
  obtain ⟨A, c, e⟩ := Blk.own_form h
  subst e
  exact ⟨A, c, rfl, (Blk.strs_of_own h).2⟩
theorem SR.take {base : Nat} {W : World} {V : Value} {xs : List ByteArray} (h : SR base W V xs) (hn : xs ≠ []) : ∃ g c, V = .slice (some ⟨g, 0, none⟩) xs.length c ∧ base ≤ g ∧ g < W.heap.size ∧ ∀ i x, xs[i]? = some x → W.cell? ⟨g, i, none⟩ = some (.string x) := by
  obtain ⟨A, c, rfl, hs⟩ := h.strs
  rcases h.2 with ⟨_, h0⟩ | ⟨g, cap, cur, e, hb, hg, _⟩
  · exact absurd (List.length_eq_zero_iff.1 h0) hn
  · injection e with e1 e2 e3
    subst e1
    refine ⟨g, c, rfl, hb, (h.lt g rfl).2, fun i x hx => ?_⟩
    obtain ⟨b, o, e, _, hc⟩ := hs.2 i x hx
    injection e with e
    injection e with e e'
    subst e e'
    rw [Nat.zero_add] at hc
    exact hc
theorem take_adds {ms : List ByteArray} {k : Nat} {x : ByteArray} (h : ms[k]? = some x) (out : List ByteArray) : (ms.take (k + 1)).foldl addN out = addN ((ms.take k).foldl addN out) x := by
  rw [List.take_add_one, h, List.foldl_append]
  rfl
theorem take_all {ms : List ByteArray} (out : List ByteArray) : (ms.take ms.length).foldl addN out = ms.foldl addN out := by rw [List.take_length]
theorem Grew.low {w w1 w2 : World} {V V2 : Value} (h : Below w.heap.size w w1) (h' : Grew w1 w2 V V2) : Grew w w2 V V2 := (Grew.of_below h).trans h'
theorem SR.base {lo B : Nat} {w w' : World} {V V' : Value} {xs : List ByteArray} (h : SR lo w V xs) (hg : Grew w w' V V') (hB : B ≤ lo) (hs : B ≤ w.heap.size) : Below B w w' :=
  (Below.refl B w).grown hg.1 hs (fun k hk => Nat.le_trans hB (h.lt k hk).1)
theorem Grew.five {w w' : World} {V V' : Value} {g o : Nat} {c0 c1 c2 c3 c4 : Value} (h : Grew w w' V V') (hg : g < w.heap.size) (hV : V.ownBlock ≠ some g) (hf : Five w g o c0 c1 c2 c3 c4) : Five w' g o c0 c1 c2 c3 c4 :=
  ⟨h.cell hg hV hf.1, h.cell hg hV hf.2.1, h.cell hg hV hf.2.2.1, h.cell hg hV hf.2.2.2.1, h.cell hg hV hf.2.2.2.2⟩
end Go.Proofs.YtnmidlbhkjcimaaDoor
