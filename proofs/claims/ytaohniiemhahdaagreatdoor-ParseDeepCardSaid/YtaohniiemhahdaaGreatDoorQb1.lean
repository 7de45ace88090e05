/- Values as plain trees, how they lie in memory, and a value that comes in, opened. -/
import Derived.Test.YtaohniiemhahdaaGreatDoorRows
import Derived.WalkKit
import Derived.ProofKit
import Derived.Carry
import Derived.Deep.Strs
import Derived.Deep.Slices
import Derived.Lib.Hide
import Derived.Deep.LoopGhost
import Derived.Deep.WholeRow
import Derived.Deep.RegionHeld3
import Derived.Shelf.Abstract
import Derived.Deep.QuietTactic
import Derived.BigQuiet
import Derived.Deep.Draws
import Derived.Laws.Rows
import Derived.Test.YtaohniiemhahdaaGreatDoorQb0
import Derived.Laws.BitsAllLaws
import Derived.Laws.BitsLemmas
import Derived.Laws.Entries
namespace Go.Proofs.YtaohniiemhahdaaGreatDoor
open Go.ChangeShapes Go.WideShapes Go.ChangeAt Go.RowKit

mutual
/-- A value: its kind, its number, its text, its elements, its members. -/
inductive VT where
  | mk (k n : Int) (s : ByteArray) (l : VL) (m : VM)
inductive VL where
  | nil
  | cons (v : VT) (t : VL)
inductive VM where
  | nil
  | cons (name : ByteArray) (v : VT) (t : VM)
end
def VL.len : VL → Nat
  | .nil => 0
  | .cons _ t => t.len + 1
def VM.len : VM → Nat
  | .nil => 0
  | .cons _ _ t => t.len + 1
def VL.get : VL → Nat → Option VT
  | .nil, _ => none
  | .cons v _, 0 => some v
  | .cons _ t, j + 1 => t.get j
def VM.get : VM → Nat → Option (ByteArray × VT)
  | .nil, _ => none
  | .cons nm v _, 0 => some (nm, v)
  | .cons _ _ t, j + 1 => t.get j
/-- Five cells in a row. -/
def Five (w : World) (b o : Nat) (c0 c1 c2 c3 c4 : Value) : Prop := w.cell? ⟨b, o, none⟩ = some c0 ∧ w.cell? ⟨b, o + 1, none⟩ = some c1 ∧ w.cell? ⟨b, o + 2, none⟩ = some c2 ∧ w.cell? ⟨b, o + 3, none⟩ = some c3 ∧ w.cell? ⟨b, o + 4, none⟩ = some c4
theorem Five.below {w w' : World} {B b o : Nat} {c0 c1 c2 c3 c4 : Value} (h : Five w b o c0 c1 c2 c3 c4) (hb : Below B w w') (hlt : b < B) : Five w' b o c0 c1 c2 c3 c4 :=
  ⟨(hb.cell (p := ⟨b, _, none⟩) hlt).trans h.1, (hb.cell (p := ⟨b, _, none⟩) hlt).trans h.2.1, (hb.cell (p := ⟨b, _, none⟩) hlt).trans h.2.2.1, (hb.cell (p := ⟨b, _, none⟩) hlt).trans h.2.2.2.1, (hb.cell (p := ⟨b, _, none⟩) hlt).trans h.2.2.2.2⟩
mutual
/-- These five values are the fields of the tree; all that they reach lies below block B. -/
def VAt (w : World) (B : Nat) : VT → Value → Value → Value → Value → Value → Prop
  | .mk k n s l m, c0, c1, c2, c3, c4 => c0 = .int .i64 k ∧ c1 = .int .i64 n ∧ c2 = .string s ∧ s.size ≤ 9223372036854775807 ∧ (∃ A c, c3 = .slice A l.len c ∧ l.len ≤ 9223372036854775807 ∧ LAt w B l A 0) ∧ ∃ A c, c4 = .slice A m.len c ∧ m.len ≤ 9223372036854775807 ∧ MAt w B m A 0
def LAt (w : World) (B : Nat) : VL → Option Addr → Nat → Prop
  | .nil, _, _ => True
  | .cons v t, A, j => (∃ b o c0 c1 c2 c3 c4, A = some ⟨b, o, none⟩ ∧ b < B ∧ Five w b (o + j * 5) c0 c1 c2 c3 c4 ∧ VAt w B v c0 c1 c2 c3 c4) ∧ LAt w B t A (j + 1)
def MAt (w : World) (B : Nat) : VM → Option Addr → Nat → Prop
  | .nil, _, _ => True
  | .cons nm v t, A, j => (∃ b o c0 c1 c2 c3 c4, A = some ⟨b, o, none⟩ ∧ b < B ∧ w.cell? ⟨b, o + j * 6, none⟩ = some (.string nm) ∧ nm.size ≤ 9223372036854775807 ∧ Five w b (o + j * 6 + 1) c0 c1 c2 c3 c4 ∧ VAt w B v c0 c1 c2 c3 c4) ∧ MAt w B t A (j + 1)
end
mutual
theorem VAt.below {w w' : World} {B : Nat} (hb : Below B w w') : ∀ (v : VT) (c0 c1 c2 c3 c4 : Value), VAt w B v c0 c1 c2 c3 c4 → VAt w' B v c0 c1 c2 c3 c4
  | .mk k n s l m, c0, c1, c2, c3, c4, h => by
    unfold VAt at h ⊢
    obtain ⟨h0, h1, h2, hs, ⟨A, c, h3, g3, h4⟩, A', c', h5, g5, h6⟩ := h
    exact ⟨h0, h1, h2, hs, ⟨A, c, h3, g3, LAt.below hb l A 0 h4⟩, A', c', h5, g5, MAt.below hb m A' 0 h6⟩
theorem LAt.below {w w' : World} {B : Nat} (hb : Below B w w') : ∀ (l : VL) (A : Option Addr) (j : Nat), LAt w B l A j → LAt w' B l A j
  | .nil, _, _, _ => by unfold LAt; trivial
  | .cons v t, A, j, h => by
    unfold LAt at h ⊢
    obtain ⟨⟨b, o, c0, c1, c2, c3, c4, hA, hlt, hf, hv⟩, ht⟩ := h
    exact ⟨⟨b, o, c0, c1, c2, c3, c4, hA, hlt, hf.below hb hlt, VAt.below hb v _ _ _ _ _ hv⟩, LAt.below hb t A (j + 1) ht⟩
theorem MAt.below {w w' : World} {B : Nat} (hb : Below B w w') : ∀ (l : VM) (A : Option Addr) (j : Nat), MAt w B l A j → MAt w' B l A j
  | .nil, _, _, _ => by unfold MAt; trivial
  | .cons nm v t, A, j, h => by
    unfold MAt at h ⊢
    obtain ⟨⟨b, o, c0, c1, c2, c3, c4, hA, hlt, hn, hz, hf, hv⟩, ht⟩ := h
    exact ⟨⟨b, o, c0, c1, c2, c3, c4, hA, hlt, (hb.cell (p := ⟨b, _, none⟩) hlt).trans hn, hz, hf.below hb hlt, VAt.below hb v _ _ _ _ _ hv⟩, MAt.below hb t A (j + 1) ht⟩
end
theorem LAt.at {w : World} {B : Nat} : ∀ {l : VL} {A : Option Addr} {i j : Nat} {v : VT}, LAt w B l A i → l.get j = some v → ∃ b o c0 c1 c2 c3 c4, A = some ⟨b, o, none⟩ ∧ b < B ∧ Five w b (o + (i + j) * 5) c0 c1 c2 c3 c4 ∧ VAt w B v c0 c1 c2 c3 c4
  | .nil, _, _, _, _, _, h => by simp [VL.get] at h
  | .cons u t, A, i, 0, v, h, hg => by
    unfold LAt at h
    have : u = v := by simpa [VL.get] using hg
    subst this
    exact h.1
  | .cons u t, A, i, j + 1, v, h, hg => by
    unfold LAt at h
    have := LAt.at h.2 (j := j) (v := v) hg
    rwa [show i + 1 + j = i + (j + 1) by omega] at this
theorem MAt.at {w : World} {B : Nat} : ∀ {l : VM} {A : Option Addr} {i j : Nat} {nm : ByteArray} {v : VT}, MAt w B l A i → l.get j = some (nm, v) → ∃ b o c0 c1 c2 c3 c4, A = some ⟨b, o, none⟩ ∧ b < B ∧ w.cell? ⟨b, o + (i + j) * 6, none⟩ = some (.string nm) ∧ nm.size ≤ 9223372036854775807 ∧ Five w b (o + (i + j) * 6 + 1) c0 c1 c2 c3 c4 ∧ VAt w B v c0 c1 c2 c3 c4
  | .nil, _, _, _, _, _, _, h => by simp [VM.get] at h
  | .cons u x t, A, i, 0, nm, v, h, hg => by
    unfold MAt at h
    have : u = nm ∧ x = v := by simpa [VM.get] using hg
    obtain ⟨rfl, rfl⟩ := this
    exact h.1
  | .cons u x t, A, i, j + 1, nm, v, h, hg => by
    unfold MAt at h
    have := MAt.at h.2 (j := j) (nm := nm) (v := v) hg
    rwa [show i + 1 + j = i + (j + 1) by omega] at this
theorem add_at {b o i : Nat} : (⟨b, o, none⟩ : Addr).add i = ⟨b, o + i, none⟩ := by unfold Addr.add; split <;> simp_all

end Go.Proofs.YtaohniiemhahdaaGreatDoor
/- The walk of seinekeep.Size: by induction on the tree. -/
namespace Go.Proofs.YtaohniiemhahdaaGreatDoor
open Go.RowKit

mutual
def sizeV : VT → Nat
  | .mk _ _ s l m => 1 + s.size + sizeL l + sizeM m
def sizeL : VL → Nat
  | .nil => 0
  | .cons v t => sizeV v + sizeL t
def sizeM : VM → Nat
  | .nil => 0
  | .cons nm v t => nm.size + sizeV v + sizeM t
end
/-- The first j of them. -/
def preL : VL → Nat → Nat
  | .nil, _ => 0
  | .cons _ _, 0 => 0
  | .cons v t, j + 1 => sizeV v + preL t j
def preM : VM → Nat → Nat
  | .nil, _ => 0
  | .cons _ _ _, 0 => 0
  | .cons nm v t, j + 1 => nm.size + sizeV v + preM t j
/-- A sum as a number of 64 bits. -/
def W64 (n : Nat) : Int := IntKind.i64.wrap (n : Int)
/-- The box of the argument, and nothing that was there has turned. -/
def KV (w : World) (c2 c3 c4 : Value) (w' : World) : Prop := w'.cell? ⟨w.heap.size, 2, none⟩ = some c2 ∧ w'.cell? ⟨w.heap.size, 3, none⟩ = some c3 ∧ w'.cell? ⟨w.heap.size, 4, none⟩ = some c4 ∧ Below w.heap.size w w' ∧ w.heap.size < w'.heap.size
theorem KV.next {w W W' : World} {c2 c3 c4 : Value} (h : KV w c2 c3 c4 W) (hb : Below W.heap.size W W') : KV w c2 c3 c4 W' := by
  obtain ⟨h2, h3, h4, hB, hs⟩ := h
  exact ⟨(hb.cell (p := ⟨_, _, none⟩) hs).trans h2, (hb.cell (p := ⟨_, _, none⟩) hs).trans h3, (hb.cell (p := ⟨_, _, none⟩) hs).trans h4, hB.trans (hb.mono hB.size), Nat.lt_of_lt_of_le hs hb.size⟩
theorem KV.start (w : World) (c0 c1 c2 c3 c4 : Value) (t : TypeId) : KV w c2 c3 c4 (w.alloc (.cells #[c0, c1, c2, c3, c4] t)) := by
  refine ⟨?_, ?_, ?_, (Below.refl _ _).alloc (Nat.le_refl _) _, by simp⟩ <;> (simp only [World.cell?]; rw [show (w.alloc (.cells #[c0, c1, c2, c3, c4] t)).heap[w.heap.size]? = some (.cells #[c0, c1, c2, c3, c4] t) by show (w.heap.push _)[w.heap.size]? = _; simp]; rfl)
/-- And the member at hand. -/
def KM (w : World) (c2 c3 c4 : Value) (b O : Nat) (nm d0 d1 d2 d3 d4 : Value) (w' : World) : Prop := w'.cell? ⟨w.heap.size, 4, none⟩ = some c4 ∧ w'.cell? ⟨b, O, none⟩ = some nm ∧ Five w' b (O + 1) d0 d1 d2 d3 d4 ∧ KV w c2 c3 c4 w'
theorem KM.next {w W W' : World} {c2 c3 c4 : Value} {b O : Nat} {nm d0 d1 d2 d3 d4 : Value} (h : KM w c2 c3 c4 b O nm d0 d1 d2 d3 d4 W) (hbw : b < w.heap.size) (hb : Below W.heap.size W W') : KM w c2 c3 c4 b O nm d0 d1 d2 d3 d4 W' := by
  obtain ⟨h4, hn, hF, hK⟩ := h
  have hl : b < W.heap.size := Nat.lt_trans hbw hK.2.2.2.2
  have hK' := hK.next hb
  exact ⟨hK'.2.2.1, (hb.cell (p := ⟨b, _, none⟩) hl).trans hn, hF.below hb hl, hK'⟩
theorem KM.below {w W : World} {c2 c3 c4 : Value} {b O : Nat} {nm d0 d1 d2 d3 d4 : Value} (h : KM w c2 c3 c4 b O nm d0 d1 d2 d3 d4 W) : Below w.heap.size w W := h.2.2.2.2.2.2.1
theorem KM.written {w W : World} {c2 c3 c4 : Value} {b O : Nat} {nm d0 d1 d2 d3 d4 : Value} (h : KM w c2 c3 c4 b O nm d0 d1 d2 d3 d4 W) : W.cell? ⟨w.heap.size, 4, none⟩ = some c4 ∧ W.cell? ⟨b, O, none⟩ = some nm ∧ W.cell? ⟨b, O + 1, none⟩ = some d0 ∧ W.cell? ⟨b, O + 1 + 1, none⟩ = some d1 ∧ W.cell? ⟨b, O + 1 + 2, none⟩ = some d2 ∧ W.cell? ⟨b, O + 1 + 3, none⟩ = some d3 ∧ W.cell? ⟨b, O + 1 + 4, none⟩ = some d4 ∧ KM w c2 c3 c4 b O nm d0 d1 d2 d3 d4 W :=
  ⟨h.1, h.2.1, h.2.2.1.1, h.2.2.1.2.1, h.2.2.1.2.2.1, h.2.2.1.2.2.2.1, h.2.2.1.2.2.2.2, h⟩
end Go.Proofs.YtaohniiemhahdaaGreatDoor
/- The walks of seineref1.Same and seineref1.Members: by induction on the tree. -/
namespace Go.Proofs.YtaohniiemhahdaaGreatDoor
open Go.RowKit

theorem vaside {p : Prop} (h : p) : Aside p := h
/-- The first q agree. -/
def AgreeL (l l' : VL) (q : Nat) : Prop := ∀ j, j < q → l.get j = l'.get j
def AgreeM (l l' : VM) (q : Nat) : Prop := ∀ j, j < q → l.get j = l'.get j
theorem AgreeL.next {l l' : VL} {q : Nat} {v : VT} (h : AgreeL l l' q) (h1 : l.get q = some v) (h2 : l'.get q = some v) : AgreeL l l' (q + 1) := fun j hj => by
  rcases Nat.lt_or_ge j q with h' | h'
  · exact h j h'
  · obtain rfl : j = q := by omega
    rw [h1, h2]
theorem AgreeM.next {l l' : VM} {q : Nat} {v : ByteArray × VT} (h : AgreeM l l' q) (h1 : l.get q = some v) (h2 : l'.get q = some v) : AgreeM l l' (q + 1) := fun j hj => by
  rcases Nat.lt_or_ge j q with h' | h'
  · exact h j h'
  · obtain rfl : j = q := by omega
    rw [h1, h2]

def SameC (u : VT) : Prop := ∀ (v : VT) (c0 c1 c2 c3 c4 d0 d1 d2 d3 d4 : Value) (w : World) (B : Nat), B ≤ w.heap.size → VAt w B u c0 c1 c2 c3 c4 → VAt w B v d0 d1 d2 d3 d4 →
  Calls Tryz.prog 19 #[.agg #[c0, c1, c2, c3, c4], .agg #[d0, d1, d2, d3, d4]] w fun e w' => (∃ b, e = .returned (.bool b) ∧ (b = true ↔ u = v)) ∧ Below w.heap.size w w'
def MembC (m : VM) : Prop := ∀ (m' : VM) (A A' : Option Addr) (c c' : Nat) (w : World) (B : Nat), B ≤ w.heap.size → m.len ≤ 9223372036854775807 → m'.len ≤ 9223372036854775807 → MAt w B m A 0 → MAt w B m' A' 0 →
  Calls Tryz.prog 41 #[.slice A m.len c, .slice A' m'.len c'] w fun e w' => (∃ b, e = .returned (.bool b) ∧ (b = true ↔ m = m')) ∧ Below w.heap.size w w'
theorem SameC.no {u v : VT} (h : SameC u) (e : ¬ u = v) (c0 c1 c2 c3 c4 d0 d1 d2 d3 d4 : Value) (w : World) (B : Nat) (hB : B ≤ w.heap.size) (h1 : VAt w B u c0 c1 c2 c3 c4) (h2 : VAt w B v d0 d1 d2 d3 d4) :
    Calls Tryz.prog 19 #[.agg #[c0, c1, c2, c3, c4], .agg #[d0, d1, d2, d3, d4]] w fun e w' => e = .returned (.bool false) ∧ Below w.heap.size w w' := by
  refine (h v c0 c1 c2 c3 c4 d0 d1 d2 d3 d4 w B hB h1 h2).mono ?_
  rintro e' w' ⟨⟨b, rfl, hb⟩, hw⟩
  have : b = false := by cases b; rfl; exact absurd (hb.1 rfl) e
  rw [this]
  exact ⟨rfl, hw⟩
/-- Two members at hand. -/
def KE (w : World) (b O : Nat) (nm d0 d1 d2 d3 d4 : Value) (b' O' : Nat) (nm' f0 f1 f2 f3 f4 : Value) (W : World) : Prop :=
  W.cell? ⟨b, O, none⟩ = some nm ∧ Five W b (O + 1) d0 d1 d2 d3 d4 ∧ W.cell? ⟨b', O', none⟩ = some nm' ∧ Five W b' (O' + 1) f0 f1 f2 f3 f4 ∧ Below w.heap.size w W
theorem KE.next {w W W' : World} {b O : Nat} {nm d0 d1 d2 d3 d4 : Value} {b' O' : Nat} {nm' f0 f1 f2 f3 f4 : Value} (h : KE w b O nm d0 d1 d2 d3 d4 b' O' nm' f0 f1 f2 f3 f4 W) (hl : b < w.heap.size) (hl' : b' < w.heap.size) (hb : Below W.heap.size W W') : KE w b O nm d0 d1 d2 d3 d4 b' O' nm' f0 f1 f2 f3 f4 W' := by
  obtain ⟨h1, h2, h3, h4, hB⟩ := h
  have g := Nat.lt_of_lt_of_le hl hB.size
  have g' := Nat.lt_of_lt_of_le hl' hB.size
  exact ⟨(hb.cell (p := ⟨b, _, none⟩) g).trans h1, h2.below hb g, (hb.cell (p := ⟨b', _, none⟩) g').trans h3, h4.below hb g', hB.trans (hb.mono hB.size)⟩
theorem KE.written {w W : World} {b O : Nat} {nm d0 d1 d2 d3 d4 : Value} {b' O' : Nat} {nm' f0 f1 f2 f3 f4 : Value} (h : KE w b O nm d0 d1 d2 d3 d4 b' O' nm' f0 f1 f2 f3 f4 W) :
    W.cell? ⟨b, O, none⟩ = some nm ∧ W.cell? ⟨b, O + 1, none⟩ = some d0 ∧ W.cell? ⟨b, O + 1 + 1, none⟩ = some d1 ∧ W.cell? ⟨b, O + 1 + 2, none⟩ = some d2 ∧ W.cell? ⟨b, O + 1 + 3, none⟩ = some d3 ∧ W.cell? ⟨b, O + 1 + 4, none⟩ = some d4 ∧
    W.cell? ⟨b', O', none⟩ = some nm' ∧ W.cell? ⟨b', O' + 1, none⟩ = some f0 ∧ W.cell? ⟨b', O' + 1 + 1, none⟩ = some f1 ∧ W.cell? ⟨b', O' + 1 + 2, none⟩ = some f2 ∧ W.cell? ⟨b', O' + 1 + 3, none⟩ = some f3 ∧ W.cell? ⟨b', O' + 1 + 4, none⟩ = some f4 ∧
    KE w b O nm d0 d1 d2 d3 d4 b' O' nm' f0 f1 f2 f3 f4 W :=
  ⟨h.1, h.2.1.1, h.2.1.2.1, h.2.1.2.2.1, h.2.1.2.2.2.1, h.2.1.2.2.2.2, h.2.2.1, h.2.2.2.1.1, h.2.2.2.1.2.1, h.2.2.2.1.2.2.1, h.2.2.2.1.2.2.2.1, h.2.2.2.1.2.2.2.2, h⟩

end Go.Proofs.YtaohniiemhahdaaGreatDoor
/- The walk of seineref1.Same, and both together. -/
namespace Go.Proofs.YtaohniiemhahdaaGreatDoor
open Go.RowKit

/-- The two boxes, what of them the loop and the end read. -/
def KS (w : World) (a3 a4 b3 b4 : Value) (W : World) : Prop := W.cell? ⟨w.heap.size, 3, none⟩ = some a3 ∧ W.cell? ⟨w.heap.size, 4, none⟩ = some a4 ∧ W.cell? ⟨w.heap.size + 1, 3, none⟩ = some b3 ∧ W.cell? ⟨w.heap.size + 1, 4, none⟩ = some b4 ∧ Below w.heap.size w W ∧ w.heap.size + 1 < W.heap.size
theorem KS.next {w W W' : World} {a3 a4 b3 b4 : Value} (h : KS w a3 a4 b3 b4 W) (hb : Below W.heap.size W W') : KS w a3 a4 b3 b4 W' := by
  obtain ⟨h1, h2, h3, h4, hB, hs⟩ := h
  have hs0 : w.heap.size < W.heap.size := by omega
  exact ⟨(hb.cell (p := ⟨_, _, none⟩) hs0).trans h1, (hb.cell (p := ⟨_, _, none⟩) hs0).trans h2, (hb.cell (p := ⟨_, _, none⟩) hs).trans h3, (hb.cell (p := ⟨_, _, none⟩) hs).trans h4, hB.trans (hb.mono hB.size), Nat.lt_of_lt_of_le hs hb.size⟩
theorem KS.start (w : World) (c0 c1 c2 c3 c4 d0 d1 d2 d3 d4 : Value) (t : TypeId) : KS w c3 c4 d3 d4 ((w.alloc (.cells #[c0, c1, c2, c3, c4] t)).alloc (.cells #[d0, d1, d2, d3, d4] t)) := by
  have k0 : ((w.alloc (.cells #[c0, c1, c2, c3, c4] t)).alloc (.cells #[d0, d1, d2, d3, d4] t)).heap[w.heap.size]? = some (.cells #[c0, c1, c2, c3, c4] t) := by
    rw [Below.heap_alloc _ _ _ (by simp)]
    show (w.heap.push _)[w.heap.size]? = _; simp
  have k1 : ((w.alloc (.cells #[c0, c1, c2, c3, c4] t)).alloc (.cells #[d0, d1, d2, d3, d4] t)).heap[w.heap.size + 1]? = some (.cells #[d0, d1, d2, d3, d4] t) := by
    show ((w.heap.push _).push _)[w.heap.size + 1]? = _
    rw [Array.getElem?_push, if_pos (by simp)]
  refine ⟨?_, ?_, ?_, ?_, ((Below.refl _ _).alloc (Nat.le_refl _) _).alloc (by simp) _, by simp⟩
  all_goals (simp only [World.cell?]; first | (rw [k0]; rfl) | (rw [k1]; rfl))
theorem KS.below {w W : World} {a3 a4 b3 b4 : Value} (h : KS w a3 a4 b3 b4 W) : Below w.heap.size w W := h.2.2.2.2.1

/-- Two elements at hand. -/
def KL (w : World) (a3 a4 b3 b4 : Value) (b O : Nat) (d0 d1 d2 d3 d4 : Value) (b' O' : Nat) (f0 f1 f2 f3 f4 : Value) (W : World) : Prop :=
  Five W b O d0 d1 d2 d3 d4 ∧ Five W b' O' f0 f1 f2 f3 f4 ∧ KS w a3 a4 b3 b4 W
theorem KL.next {w W W' : World} {a3 a4 b3 b4 : Value} {b O : Nat} {d0 d1 d2 d3 d4 : Value} {b' O' : Nat} {f0 f1 f2 f3 f4 : Value} (h : KL w a3 a4 b3 b4 b O d0 d1 d2 d3 d4 b' O' f0 f1 f2 f3 f4 W) (hl : b < w.heap.size) (hl' : b' < w.heap.size) (hb : Below W.heap.size W W') : KL w a3 a4 b3 b4 b O d0 d1 d2 d3 d4 b' O' f0 f1 f2 f3 f4 W' := by
  obtain ⟨h2, h4, hK⟩ := h
  have g := Nat.lt_of_lt_of_le hl hK.below.size
  have g' := Nat.lt_of_lt_of_le hl' hK.below.size
  exact ⟨h2.below hb g, h4.below hb g', hK.next hb⟩
theorem KL.written {w W : World} {a3 a4 b3 b4 : Value} {b O : Nat} {d0 d1 d2 d3 d4 : Value} {b' O' : Nat} {f0 f1 f2 f3 f4 : Value} (h : KL w a3 a4 b3 b4 b O d0 d1 d2 d3 d4 b' O' f0 f1 f2 f3 f4 W) :
    W.cell? ⟨b, O, none⟩ = some d0 ∧ W.cell? ⟨b, O + 1, none⟩ = some d1 ∧ W.cell? ⟨b, O + 2, none⟩ = some d2 ∧ W.cell? ⟨b, O + 3, none⟩ = some d3 ∧ W.cell? ⟨b, O + 4, none⟩ = some d4 ∧
    W.cell? ⟨b', O', none⟩ = some f0 ∧ W.cell? ⟨b', O' + 1, none⟩ = some f1 ∧ W.cell? ⟨b', O' + 2, none⟩ = some f2 ∧ W.cell? ⟨b', O' + 3, none⟩ = some f3 ∧ W.cell? ⟨b', O' + 4, none⟩ = some f4 ∧
    W.cell? ⟨w.heap.size, 3, none⟩ = some a3 ∧ W.cell? ⟨w.heap.size + 1, 3, none⟩ = some b3 ∧
    KL w a3 a4 b3 b4 b O d0 d1 d2 d3 d4 b' O' f0 f1 f2 f3 f4 W :=
  ⟨h.1.1, h.1.2.1, h.1.2.2.1, h.1.2.2.2.1, h.1.2.2.2.2, h.2.1.1, h.2.1.2.1, h.2.1.2.2.1, h.2.1.2.2.2.1, h.2.1.2.2.2.2, h.2.2.1, h.2.2.2.2.1, h⟩

end Go.Proofs.YtaohniiemhahdaaGreatDoor
/- The walks of seineref1.Get, Int and Text. -/
namespace Go.Proofs.YtaohniiemhahdaaGreatDoor
open Go.RowKit

/-- The value that is none. -/
def VT.zero : VT := .mk 0 0 ⟨#[]⟩ .nil .nil
/-- The first member's of that name. -/
def getM : VM → ByteArray → VT × Bool
  | .nil, _ => (.zero, false)
  | .cons nm v t, s => if nm = s then (v, true) else getM t s
def VM.drop : VM → Nat → VM
  | m, 0 => m
  | .nil, _ + 1 => .nil
  | .cons _ _ t, j + 1 => t.drop j
theorem VM.drop_all : ∀ (m : VM), m.drop m.len = .nil
  | .nil => rfl
  | .cons _ _ t => VM.drop_all t
theorem VM.drop_zero (m : VM) : m.drop 0 = m := by cases m <;> rfl
/-- The end of a function that answers a value out of a cell, and one that answers a Boolean beside it. -/
theorem ret_v1 {R : Ending → World → Prop} {fn : Func} {a : Act} {W : World} {c0 c1 c2 c3 c4 : Value} {p b : Nat} (hf : fn.results = #[.cell p 35]) (h2 : a.tmps.getD p undef = .pointer (some ⟨b, 0, none⟩)) (hd : a.defers = [])
    (hc : W.heap[b]? = some (.cells #[c0, c1, c2, c3, c4] 35 (0, 0))) (hR : R (.returned (.agg #[c0, c1, c2, c3, c4])) W) : bodyPost Tryz.prog fn R .ret a W := by
  have hl : (loadVar 35 ⟨b, 0, none⟩).run Tryz.prog W = .ok (.agg #[c0, c1, c2, c3, c4]) W :=
    run_loadVar_row W b 35 35 #[c0, c1, c2, c3, c4] (0, 0) _ hc Tryz.underlying35 rfl (by kernel_rfl)
  refine bodyPost_ret ?_ hd hR
  have h2' : a.tmps[p]?.getD undef = .pointer (some ⟨b, 0, none⟩) := by rw [← h2]; simp
  simp [results, hf, h2', asAddr, hl]
end Go.Proofs.YtaohniiemhahdaaGreatDoor
/- The walks of value.Get, Int and Text. -/
namespace Go.Proofs.YtaohniiemhahdaaGreatDoor
open Go.RowKit

theorem pint_any (z : Int) (w : World) :
    Calls Tryz.prog 148 #[.int .i64 z] w fun e w' => e = .returned (.agg #[.int .i64 2, .int .i64 z, .string ⟨#[]⟩, .slice none 0 0, .slice none 0 0]) ∧ Below w.heap.size w w' := by
  go_enter Tryz.func148, Tryz.ntmps148
  go_wp2_with fail
  exact ret_v1 rfl rfl rfl (heap_alloc_new _ _) ⟨rfl, (Below.refl _ _).alloc (Nat.le_refl _) _⟩
theorem ptext_any (s : ByteArray) (w : World) :
    Calls Tryz.prog 149 #[.string s] w fun e w' => e = .returned (.agg #[.int .i64 4, .int .i64 0, .string s, .slice none 0 0, .slice none 0 0]) ∧ Below w.heap.size w w' := by
  go_enter Tryz.func149, Tryz.ntmps149
  go_wp2_with fail
  exact ret_v1 rfl rfl rfl (heap_alloc_new _ _) ⟨rfl, (Below.refl _ _).alloc (Nat.le_refl _) _⟩
theorem five_set {w : World} {b : Nat} {z0 z1 z2 z3 z4 v0 v1 v2 v3 v4 : Value} {t : TypeId} (h : w.heap[b]? = some (.cells #[z0, z1, z2, z3, z4] t (0, 0))) : (((((w.setCell ⟨b, 0, none⟩ v0).setCell ⟨b, 1, none⟩ v1).setCell ⟨b, 2, none⟩ v2).setCell ⟨b, 3, none⟩ v3).setCell ⟨b, 4, none⟩ v4).heap[b]? = some (.cells #[v0, v1, v2, v3, v4] t (0, 0)) :=
  heap_setCell_same _ b 4 _ _ _ (heap_setCell_same _ b 3 _ _ _ (heap_setCell_same _ b 2 _ _ _ (heap_setCell_same _ b 1 _ _ _ (heap_setCell_same _ b 0 _ _ _ h))))
theorem gfive_cells {w : World} {b : Nat} {z0 z1 z2 z3 z4 : Value} {t : TypeId} (h : w.heap[b]? = some (.cells #[z0, z1, z2, z3, z4] t (0, 0))) : w.cell? ⟨b, 0, none⟩ = some z0 ∧ w.cell? ⟨b, 1, none⟩ = some z1 ∧ w.cell? ⟨b, 2, none⟩ = some z2 ∧ w.cell? ⟨b, 3, none⟩ = some z3 ∧ w.cell? ⟨b, 4, none⟩ = some z4 ∧ ∀ i, w.frozen? ⟨b, i, none⟩ = false := by
  refine ⟨?_, ?_, ?_, ?_, ?_, fun i => ?_⟩
  all_goals first | (simp only [World.cell?, h]; rfl) | simp [World.frozen?, h]
def ResAt (w wx : World) : Prop := wx.heap[w.heap.size]? = some (.cells #[.int .i64 0, .int .i64 0, .string ⟨#[]⟩, .slice none 0 0, .slice none 0 0] 35 (0, 0)) ∧ w.heap.size < wx.heap.size ∧ Below w.heap.size w wx
theorem ResAt.alloc {w wx : World} (h : ResAt w wx) (o : Obj) : ResAt w (wx.alloc o) :=
  ⟨(Below.heap_alloc _ _ _ h.2.1).trans h.1, by have := h.2.1; simp; omega, h.2.2.alloc (Nat.le_of_lt h.2.1) o⟩
end Go.Proofs.YtaohniiemhahdaaGreatDoor
/- Plain facts on UTF-8, of no program: which code point is encoded at the head of a list of bytes, and the arithmetic of the shapes' bits. -/
namespace Go.Proofs.YtaohniiemhahdaaGreatDoor

/-- Byte k of a list, as a number; 0 behind its end. -/
def byt (l : List UInt8) (k : Nat) : Int := ((l.getD k 0).toNat : Int)
def contB (b : Int) : Bool := decide (128 ≤ b ∧ b ≤ 191)
/-- The first byte's bits that are fixed, the bits by which they are told, the least code point, and how many first bytes there are, of the shape of k + 1 bytes. -/
def lead : Nat → Int | 0 => 0 | 1 => 192 | 2 => 224 | _ => 240
def mask : Nat → Int | 0 => 128 | 1 => 224 | 2 => 240 | _ => 248
def least : Nat → Int | 0 => 0 | 1 => 128 | 2 => 2048 | _ => 65536
def wide : Nat → Int | 0 => 128 | 1 => 32 | 2 => 16 | _ => 8
/-- The number that the first byte's rest and the bytes 1 to k - 1 are together. -/
def acc (l : List UInt8) (c : Int) : Nat → Int
  | 0 => c
  | 1 => c
  | k + 2 => acc l c (k + 1) * 64 + (byt l (k + 1) - 128)
/-- Are the bytes 1 to k - 1 ones that go on? -/
def contTo (l : List UInt8) : Nat → Bool
  | 0 => true
  | 1 => true
  | k + 2 => contTo l (k + 1) && contB (byt l (k + 1))
def leads (k : Nat) (a : Int) : Prop := lead k ≤ a ∧ a < lead k + wide k
instance (k : Nat) (a : Int) : Decidable (leads k a) := by unfold leads; infer_instance
def fair (k : Nat) (c : Int) : Prop := least k ≤ c ∧ c ≤ 1114111 ∧ halfB c = false
instance (k : Nat) (c : Int) : Decidable (fair k c) := by unfold fair; infer_instance
/-- The code point of k + 1 bytes at the head, if one is there. -/
def decK (k : Nat) (l : List UInt8) : Option (Int × Int) :=
  if k < l.length ∧ leads k (byt l 0) ∧ contTo l (k + 1) = true ∧ fair k (acc l (byt l 0 - lead k) (k + 1)) then some (acc l (byt l 0 - lead k) (k + 1), (k : Int) + 1) else none
/-- The code point at the head, and its number of bytes; 0 and 0 if there is none. -/
def dec (l : List UInt8) : Int × Int :=
  match decK 0 l with
  | some p => p
  | none => match decK 1 l with
    | some p => p
    | none => match decK 2 l with
      | some p => p
      | none => match decK 3 l with
        | some p => p
        | none => (0, 0)
/-- The shapes of fewer bytes than k + 1 have no code point. -/
def noneTo (l : List UInt8) (k : Nat) : Prop := ∀ j, j < k → decK j l = none
theorem noneTo_succ {l : List UInt8} {k : Nat} (h : noneTo l k) (hk : decK k l = none) : noneTo l (k + 1) := fun j hj => by
  rcases Nat.lt_or_ge j k with h' | h'
  · exact h j h'
  · obtain rfl : j = k := by omega
    exact hk
theorem dec_none {l : List UInt8} (h : noneTo l 4) : dec l = (0, 0) := by
  simp [dec, h 0 (by omega), h 1 (by omega), h 2 (by omega), h 3 (by omega)]
theorem dec_some {l : List UInt8} {k : Nat} {p : Int × Int} (hk : k < 4) (h : noneTo l k) (hp : decK k l = some p) : dec l = p := by
  match k, hk with
  | 0, _ => simp [dec, hp]
  | 1, _ => simp [dec, h 0 (by omega), hp]
  | 2, _ => simp [dec, h 0 (by omega), h 1 (by omega), hp]
  | 3, _ => simp [dec, h 0 (by omega), h 1 (by omega), h 2 (by omega), hp]

theorem byt_lt (l : List UInt8) (k : Nat) : 0 ≤ byt l k ∧ byt l k < 256 := by
  have := (l.getD k 0).toNat_lt
  unfold byt; omega
theorem byt_drop (s : ByteArray) (i k : Nat) (h : i + k < s.size) : (s[i + k].toNat : Int) = byt (s.data.toList.drop i) k := by
  unfold byt
  have hl : s.data.toList.length = s.size := Array.length_toList
  rw [List.getD_eq_getElem?_getD, List.getElem?_drop, List.getElem?_eq_getElem (by omega)]
  rfl
theorem acc_bd (l : List UInt8) (c : Int) (h0 : 0 ≤ c) (h1 : c < 128) : ∀ k, contTo l k = true → 0 ≤ acc l c k ∧ acc l c k < 128 * 64 ^ (k - 1) := by
  intro k
  induction k with
  | zero => intro _; exact ⟨h0, by simpa [acc] using h1⟩
  | succ k ih =>
    cases k with
    | zero => intro _; exact ⟨h0, by simpa [acc] using h1⟩
    | succ k =>
      intro h
      simp only [contTo, Bool.and_eq_true] at h
      obtain ⟨a, b⟩ := ih h.1
      have hc := h.2
      simp only [contB, decide_eq_true_eq] at hc
      simp only [acc]
      refine ⟨by omega, ?_⟩
      rw [show k + 1 + 1 - 1 = (k + 1 - 1) + 1 from by omega, Int.pow_succ]
      omega

theorem decK_leads {l : List UInt8} {k : Nat} (h : ¬ leads k (byt l 0)) : decK k l = none := by
  unfold decK; rw [if_neg (fun x => h x.2.1)]
theorem decK_short {l : List UInt8} {k : Nat} (h : ¬ k < l.length) : decK k l = none := by
  unfold decK; rw [if_neg (fun x => h x.1)]
theorem decK_fair {l : List UInt8} {k : Nat} (h : ¬ fair k (acc l (byt l 0 - lead k) (k + 1))) : decK k l = none := by
  unfold decK; rw [if_neg (fun x => h x.2.2.2)]
theorem contTo_mono {l : List UInt8} : ∀ (k j : Nat), j ≤ k → contTo l k = true → contTo l j = true := by
  intro k
  induction k with
  | zero => intro j hj h; obtain rfl : j = 0 := by omega
            exact h
  | succ k ih =>
    intro j hj h
    rcases Nat.lt_or_ge j (k + 1) with h' | h'
    · refine ih j (by omega) ?_
      cases k with
      | zero => rfl
      | succ k => simp only [contTo, Bool.and_eq_true] at h; exact h.1
    · obtain rfl : j = k + 1 := by omega
      exact h
theorem decK_cont {l : List UInt8} {k j : Nat} (h0 : 1 ≤ j) (hj : j ≤ k) (h : ¬ contB (byt l j) = true) : decK k l = none := by
  unfold decK; rw [if_neg (fun x => h ?_)]
  have := contTo_mono (k + 1) (j + 1) (by omega) x.2.2.1
  match j, h0 with
  | j + 1, _ => simp only [contTo, Bool.and_eq_true] at this; exact this.2
theorem decK_yes {l : List UInt8} {k : Nat} (h1 : k < l.length) (h2 : leads k (byt l 0)) (h3 : contTo l (k + 1) = true) (h4 : fair k (acc l (byt l 0 - lead k) (k + 1))) :
    decK k l = some (acc l (byt l 0 - lead k) (k + 1), (k : Int) + 1) := by unfold decK; rw [if_pos ⟨h1, h2, h3, h4⟩]
theorem leads_bd {k : Nat} {a : Int} (h : leads k a) : 0 ≤ a - lead k ∧ a - lead k < 128 := by
  unfold leads at h
  match k, h with
  | 0, h => simp only [lead, wide] at *; omega
  | 1, h => simp only [lead, wide] at *; omega
  | 2, h => simp only [lead, wide] at *; omega
  | k + 3, h => simp only [lead, wide] at *; omega
theorem contTo_succ {l : List UInt8} {j : Nat} (h0 : 1 ≤ j) (h : contTo l j = true) (hc : contB (byt l j) = true) : contTo l (j + 1) = true := by
  match j, h0 with
  | j + 1, _ => simp [contTo, h, hc]
theorem acc_succ {l : List UInt8} {c : Int} {j : Nat} (h0 : 1 ≤ j) : acc l c (j + 1) = acc l c j * 64 + (byt l j - 128) := by
  match j, h0 with
  | j + 1, _ => rfl
theorem acc_small {l : List UInt8} {c : Int} {j : Nat} (h0 : 0 ≤ c) (h1 : c < 128) (hj : j ≤ 4) (h : contTo l j = true) : 0 ≤ acc l c j ∧ acc l c j < 33554433 := by
  have hx : ∀ (k : Nat), k ≤ 3 → (128 : Int) * 64 ^ k ≤ 33554432 := by
    intro k hk
    match k, hk with
    | 0, _ => decide
    | 1, _ => decide
    | 2, _ => decide
    | 3, _ => decide
  have hb : 0 ≤ acc l c j ∧ acc l c j < 128 * 64 ^ (j - 1) := acc_bd l c h0 h1 j h
  have := hx (j - 1) (by omega)
  omega

/- THE BITS -/
theorem and_mask_all : ∀ k : Fin 4, ∀ a : Fin 256, (bits .and .i64 ((a.val : Nat) : Int) (mask k.val) = lead k.val ↔ leads k.val ((a.val : Nat) : Int)) ∧ (leads k.val ((a.val : Nat) : Int) → bits .andNot .i64 ((a.val : Nat) : Int) (mask k.val) = ((a.val : Nat) : Int) - lead k.val) := by decide +kernel
theorem and_tail_all : ∀ a : Fin 256, (bits .and .i64 ((a.val : Nat) : Int) 192 = 128 ↔ contB ((a.val : Nat) : Int) = true) ∧ (contB ((a.val : Nat) : Int) = true → bits .and .i64 ((a.val : Nat) : Int) 63 = ((a.val : Nat) : Int) - 128) := by decide +kernel
theorem and_mask {k : Nat} (hk : k < 4) {a : Int} (h0 : 0 ≤ a) (h1 : a < 256) : (bits .and .i64 a (mask k) = lead k ↔ leads k a) ∧ (leads k a → bits .andNot .i64 a (mask k) = a - lead k) := by
  obtain ⟨n, rfl⟩ := Int.eq_ofNat_of_zero_le h0
  exact and_mask_all ⟨k, hk⟩ ⟨n, by omega⟩
theorem and_tail {a : Int} (h0 : 0 ≤ a) (h1 : a < 256) : (bits .and .i64 a 192 = 128 ↔ contB a = true) ∧ (contB a = true → bits .and .i64 a 63 = a - 128) := by
  obtain ⟨n, rfl⟩ := Int.eq_ofNat_of_zero_le h0
  exact and_tail_all ⟨n, by omega⟩
theorem ofInt_i64 (a : Nat) (ha : a < 9223372036854775808) : (BitVec.ofInt 64 (a : Int)).toNat = a := by
  rw [BitVec.ofInt_natCast, BitVec.toNat_ofNat]; exact Nat.mod_eq_of_lt (by omega)
theorem or_six {c d : Int} (h0 : 0 ≤ c) (h1 : c < 134217728) (h2 : 0 ≤ d) (h3 : d < 64) : bits .or .i64 (c * 64) d = c * 64 + d := by
  obtain ⟨a, rfl⟩ := Int.eq_ofNat_of_zero_le h0
  obtain ⟨b, rfl⟩ := Int.eq_ofNat_of_zero_le h2
  have e : ((a : Int) * 64) = ((a * 64 : Nat) : Int) := by omega
  rw [e]
  show IntKind.i64.wrap ((BitVec.ofInt 64 ((a * 64 : Nat) : Int) ||| BitVec.ofInt 64 (b : Int)).toNat : Int) = _
  have h := Nat.shiftLeft_add_eq_or_of_lt (b := b) (i := 6) (by omega) a
  rw [BitVec.toNat_or, ofInt_i64 _ (by omega), ofInt_i64 b (by omega), show a * 64 = a <<< 6 from by rw [Nat.shiftLeft_eq], ← h, IntKind.wrap_i64, Nat.shiftLeft_eq]
  omega
end Go.Proofs.YtaohniiemhahdaaGreatDoor
/- Plain facts on texts, of no program: the list of a text's code points, and what is asked of each of them. -/
namespace Go.Proofs.YtaohniiemhahdaaGreatDoor

theorem decK_bd {k : Nat} {l : List UInt8} {p : Int × Int} (hk : k < 4) (h : decK k l = some p) : p.2 = (k : Int) + 1 ∧ k + 1 ≤ l.length ∧ 0 ≤ p.1 ∧ fair k p.1 := by
  unfold decK at h
  split at h
  · rename_i hc
    obtain ⟨h1, h2, h3, h4⟩ := hc
    injection h with h
    subst h
    have hls := leads_bd h2
    exact ⟨rfl, by omega, (acc_small hls.1 hls.2 (by omega) h3).1, h4⟩
  · cases h
/-- What stands at the head: no code point, or the one of some shape. -/
theorem dec_cases (l : List UInt8) : (noneTo l 4 ∧ dec l = (0, 0)) ∨ ∃ k, k < 4 ∧ noneTo l k ∧ decK k l = some (dec l) := by
  cases h0 : decK 0 l with
  | some p => exact .inr ⟨0, by omega, fun j hj => by omega, by rw [dec_some (k := 0) (by omega) (fun j hj => by omega) h0, h0]⟩
  | none =>
    have n1 : noneTo l 1 := fun j hj => by obtain rfl : j = 0 := by omega
                                           exact h0
    cases h1 : decK 1 l with
    | some p => exact .inr ⟨1, by omega, n1, by rw [dec_some (k := 1) (by omega) n1 h1, h1]⟩
    | none =>
      have n2 := noneTo_succ n1 h1
      cases h2 : decK 2 l with
      | some p => exact .inr ⟨2, by omega, n2, by rw [dec_some (k := 2) (by omega) n2 h2, h2]⟩
      | none =>
        have n3 := noneTo_succ n2 h2
        cases h3 : decK 3 l with
        | some p => exact .inr ⟨3, by omega, n3, by rw [dec_some (k := 3) (by omega) n3 h3, h3]⟩
        | none => exact .inl ⟨noneTo_succ n3 h3, dec_none (noneTo_succ n3 h3)⟩
theorem dec_bd (l : List UInt8) : 0 ≤ (dec l).2 ∧ (dec l).2 ≤ 4 ∧ (dec l).2 ≤ l.length ∧ 0 ≤ (dec l).1 ∧ (dec l).1 ≤ 1114111 ∧ halfB (dec l).1 = false := by
  rcases dec_cases l with ⟨_, h⟩ | ⟨k, hk, _, h⟩
  · rw [h]; simp [halfB]
  · obtain ⟨h1, h2, h3, h4⟩ := decK_bd hk h
    unfold fair at h4
    exact ⟨by omega, by omega, by omega, h3, h4.2.1, h4.2.2⟩

/-- The code points of a text; none, if something else stands in it. (n: at least as many as there are bytes.) -/
def codesF : Nat → List UInt8 → Option (List Int)
  | _, [] => some []
  | 0, _ :: _ => none
  | n + 1, b :: t => if (dec (b :: t)).2 = 0 then none else (codesF n ((b :: t).drop (dec (b :: t)).2.toNat)).map ((dec (b :: t)).1 :: ·)
def codes (l : List UInt8) : Option (List Int) := codesF l.length l
theorem codesF_enough : ∀ (n m : Nat) (l : List UInt8), l.length ≤ n → l.length ≤ m → codesF n l = codesF m l := by
  intro n
  induction n with
  | zero =>
    intro m l h _
    have : l = [] := List.eq_nil_of_length_eq_zero (by omega)
    subst this
    cases m <;> rfl
  | succ n ih =>
    intro m l hn hm
    cases l with
    | nil => cases m <;> rfl
    | cons b t =>
      cases m with
      | zero => simp at hm
      | succ m =>
        have hb := dec_bd (b :: t)
        simp only [codesF]
        split
        · rfl
        · rename_i h0
          rw [ih m _ (by simp only [List.length_drop, List.length_cons] at *; omega) (by simp only [List.length_drop, List.length_cons] at *; omega)]
theorem codes_nil : codes [] = some [] := rfl
theorem codes_bad {l : List UInt8} (h : l ≠ []) (h0 : (dec l).2 = 0) : codes l = none := by
  cases l with
  | nil => exact absurd rfl h
  | cons b t => simp only [codes, List.length_cons, codesF, if_pos h0]
theorem codes_step {l : List UInt8} (h : l ≠ []) (h0 : (dec l).2 ≠ 0) : codes l = (codes (l.drop (dec l).2.toNat)).map ((dec l).1 :: ·) := by
  cases l with
  | nil => exact absurd rfl h
  | cons b t =>
    have hb := dec_bd (b :: t)
    show codesF (t.length + 1) (b :: t) = _
    simp only [codesF, if_neg h0]
    rw [codesF_enough t.length ((b :: t).drop (dec (b :: t)).2.toNat).length _ (by simp only [List.length_drop, List.length_cons] at *; omega) (Nat.le_refl _)]
    rfl
/-- Are they all code points, and does each one fit? -/
def eachP (p : Int → Bool) (l : List UInt8) : Bool :=
  match codes l with
  | some cs => cs.all p
  | none => false
theorem eachP_bad {p : Int → Bool} {l : List UInt8} (h : l ≠ []) (h0 : (dec l).2 = 0) : eachP p l = false := by simp [eachP, codes_bad h h0]
theorem eachP_step {p : Int → Bool} {l : List UInt8} (h : l ≠ []) (h0 : (dec l).2 ≠ 0) : eachP p l = (p (dec l).1 && eachP p (l.drop (dec l).2.toNat)) := by
  unfold eachP
  rw [codes_step h h0]
  cases codes (l.drop (dec l).2.toNat) with
  | none => simp
  | some cs => simp
def srcB (c : Int) : Bool := decide (c = 9 ∨ c = 10 ∨ c = 13 ∨ (32 ≤ c ∧ c < 65536))
def goodB (l : List UInt8) : Bool := eachP (fun _ => true) l
def sourceB (l : List UInt8) : Bool := eachP srcB l
theorem goodB_iff (l : List UInt8) : goodB l = (codes l).isSome := by
  unfold goodB eachP
  cases codes l <;> simp
end Go.Proofs.YtaohniiemhahdaaGreatDoor
