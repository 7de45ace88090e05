/- Values as plain trees, how they lie in memory, and a value that comes in, opened. -/
import Derived.Test.YtpkmbhnikilihaaGreatDoorRows
import Derived.WalkKit
import Derived.ProofKit
import Derived.Carry
import Derived.Deep.Strs
import Derived.Deep.Slices
import Derived.Lib.Hide
import Derived.Deep.LoopGhost
import Derived.Deep.WholeRow
import Derived.Deep.RegionHeld3
import Derived.Shelf.Abstract
import Derived.Deep.QuietTactic
import Derived.BigQuiet
import Derived.Deep.Draws
namespace Go.Proofs.YtpkmbhnikilihaaGreatDoor
open Go.ChangeShapes Go.WideShapes Go.ChangeAt Go.RowKit

mutual
/-- A value: its kind, its number, its text, its elements, its members. -/
inductive VT where
  | mk (k n : Int) (s : ByteArray) (l : VL) (m : VM)
inductive VL where
  | nil
  | cons (v : VT) (t : VL)
inductive VM where
  | nil
  | cons (name : ByteArray) (v : VT) (t : VM)
end
def VL.len : VL → Nat
  | .nil => 0
  | .cons _ t => t.len + 1
def VM.len : VM → Nat
  | .nil => 0
  | .cons _ _ t => t.len + 1
def VL.get : VL → Nat → Option VT
  | .nil, _ => none
  | .cons v _, 0 => some v
  | .cons _ t, j + 1 => t.get j
def VM.get : VM → Nat → Option (ByteArray × VT)
  | .nil, _ => none
  | .cons nm v _, 0 => some (nm, v)
  | .cons _ _ t, j + 1 => t.get j
theorem VL.get_lt : ∀ {l : VL} {j : Nat}, j < l.len → ∃ v, l.get j = some v
  | .nil, _, h => by simp [VL.len] at h
  | .cons v _, 0, _ => ⟨v, rfl⟩
  | .cons _ t, j + 1, h => VL.get_lt (l := t) (by simp [VL.len] at h; omega)
theorem VM.get_lt : ∀ {l : VM} {j : Nat}, j < l.len → ∃ v, l.get j = some v
  | .nil, _, h => by simp [VM.len] at h
  | .cons nm v _, 0, _ => ⟨(nm, v), rfl⟩
  | .cons _ _ t, j + 1, h => VM.get_lt (l := t) (by simp [VM.len] at h; omega)
/-- Five cells in a row. -/
def Five (w : World) (b o : Nat) (c0 c1 c2 c3 c4 : Value) : Prop := w.cell? ⟨b, o, none⟩ = some c0 ∧ w.cell? ⟨b, o + 1, none⟩ = some c1 ∧ w.cell? ⟨b, o + 2, none⟩ = some c2 ∧ w.cell? ⟨b, o + 3, none⟩ = some c3 ∧ w.cell? ⟨b, o + 4, none⟩ = some c4
theorem Five.below {w w' : World} {B b o : Nat} {c0 c1 c2 c3 c4 : Value} (h : Five w b o c0 c1 c2 c3 c4) (hb : Below B w w') (hlt : b < B) : Five w' b o c0 c1 c2 c3 c4 :=
  ⟨(hb.cell (p := ⟨b, _, none⟩) hlt).trans h.1, (hb.cell (p := ⟨b, _, none⟩) hlt).trans h.2.1, (hb.cell (p := ⟨b, _, none⟩) hlt).trans h.2.2.1, (hb.cell (p := ⟨b, _, none⟩) hlt).trans h.2.2.2.1, (hb.cell (p := ⟨b, _, none⟩) hlt).trans h.2.2.2.2⟩
mutual
/-- These five values are the fields of the tree; all that they reach lies below block B. -/
def VAt (w : World) (B : Nat) : VT → Value → Value → Value → Value → Value → Prop
  | .mk k n s l m, c0, c1, c2, c3, c4 => c0 = .int .i64 k ∧ c1 = .int .i64 n ∧ c2 = .string s ∧ s.size ≤ 9223372036854775807 ∧ (∃ A c, c3 = .slice A l.len c ∧ l.len ≤ 9223372036854775807 ∧ LAt w B l A 0) ∧ ∃ A c, c4 = .slice A m.len c ∧ m.len ≤ 9223372036854775807 ∧ MAt w B m A 0
def LAt (w : World) (B : Nat) : VL → Option Addr → Nat → Prop
  | .nil, _, _ => True
  | .cons v t, A, j => (∃ b o c0 c1 c2 c3 c4, A = some ⟨b, o, none⟩ ∧ b < B ∧ Five w b (o + j * 5) c0 c1 c2 c3 c4 ∧ VAt w B v c0 c1 c2 c3 c4) ∧ LAt w B t A (j + 1)
def MAt (w : World) (B : Nat) : VM → Option Addr → Nat → Prop
  | .nil, _, _ => True
  | .cons nm v t, A, j => (∃ b o c0 c1 c2 c3 c4, A = some ⟨b, o, none⟩ ∧ b < B ∧ w.cell? ⟨b, o + j * 6, none⟩ = some (.string nm) ∧ nm.size ≤ 9223372036854775807 ∧ Five w b (o + j * 6 + 1) c0 c1 c2 c3 c4 ∧ VAt w B v c0 c1 c2 c3 c4) ∧ MAt w B t A (j + 1)
end
mutual
theorem VAt.below {w w' : World} {B : Nat} (hb : Below B w w') : ∀ (v : VT) (c0 c1 c2 c3 c4 : Value), VAt w B v c0 c1 c2 c3 c4 → VAt w' B v c0 c1 c2 c3 c4
  | .mk k n s l m, c0, c1, c2, c3, c4, h => by
    unfold VAt at h ⊢
    obtain ⟨h0, h1, h2, hs, ⟨A, c, h3, g3, h4⟩, A', c', h5, g5, h6⟩ := h
    exact ⟨h0, h1, h2, hs, ⟨A, c, h3, g3, LAt.below hb l A 0 h4⟩, A', c', h5, g5, MAt.below hb m A' 0 h6⟩
theorem LAt.below {w w' : World} {B : Nat} (hb : Below B w w') : ∀ (l : VL) (A : Option Addr) (j : Nat), LAt w B l A j → LAt w' B l A j
  | .nil, _, _, _ => by unfold LAt; trivial
  | .cons v t, A, j, h => by
    unfold LAt at h ⊢
    obtain ⟨⟨b, o, c0, c1, c2, c3, c4, hA, hlt, hf, hv⟩, ht⟩ := h
    exact ⟨⟨b, o, c0, c1, c2, c3, c4, hA, hlt, hf.below hb hlt, VAt.below hb v _ _ _ _ _ hv⟩, LAt.below hb t A (j + 1) ht⟩
theorem MAt.below {w w' : World} {B : Nat} (hb : Below B w w') : ∀ (l : VM) (A : Option Addr) (j : Nat), MAt w B l A j → MAt w' B l A j
  | .nil, _, _, _ => by unfold MAt; trivial
  | .cons nm v t, A, j, h => by
    unfold MAt at h ⊢
    obtain ⟨⟨b, o, c0, c1, c2, c3, c4, hA, hlt, hn, hz, hf, hv⟩, ht⟩ := h
    exact ⟨⟨b, o, c0, c1, c2, c3, c4, hA, hlt, (hb.cell (p := ⟨b, _, none⟩) hlt).trans hn, hz, hf.below hb hlt, VAt.below hb v _ _ _ _ _ hv⟩, MAt.below hb t A (j + 1) ht⟩
end
theorem LAt.at {w : World} {B : Nat} : ∀ {l : VL} {A : Option Addr} {i j : Nat} {v : VT}, LAt w B l A i → l.get j = some v → ∃ b o c0 c1 c2 c3 c4, A = some ⟨b, o, none⟩ ∧ b < B ∧ Five w b (o + (i + j) * 5) c0 c1 c2 c3 c4 ∧ VAt w B v c0 c1 c2 c3 c4
  | .nil, _, _, _, _, _, h => by simp [VL.get] at h
  | .cons u t, A, i, 0, v, h, hg => by
    unfold LAt at h
    have : u = v := by simpa [VL.get] using hg
    subst this
    exact h.1
  | .cons u t, A, i, j + 1, v, h, hg => by
    unfold LAt at h
    have := LAt.at h.2 (j := j) (v := v) hg
    rwa [show i + 1 + j = i + (j + 1) by omega] at this
theorem MAt.at {w : World} {B : Nat} : ∀ {l : VM} {A : Option Addr} {i j : Nat} {nm : ByteArray} {v : VT}, MAt w B l A i → l.get j = some (nm, v) → ∃ b o c0 c1 c2 c3 c4, A = some ⟨b, o, none⟩ ∧ b < B ∧ w.cell? ⟨b, o + (i + j) * 6, none⟩ = some (.string nm) ∧ nm.size ≤ 9223372036854775807 ∧ Five w b (o + (i + j) * 6 + 1) c0 c1 c2 c3 c4 ∧ VAt w B v c0 c1 c2 c3 c4
  | .nil, _, _, _, _, _, _, h => by simp [VM.get] at h
  | .cons u x t, A, i, 0, nm, v, h, hg => by
    unfold MAt at h
    have : u = nm ∧ x = v := by simpa [VM.get] using hg
    obtain ⟨rfl, rfl⟩ := this
    exact h.1
  | .cons u x t, A, i, j + 1, nm, v, h, hg => by
    unfold MAt at h
    have := MAt.at h.2 (j := j) (nm := nm) (v := v) hg
    rwa [show i + 1 + j = i + (j + 1) by omega] at this
theorem add_at {b o i : Nat} : (⟨b, o, none⟩ : Addr).add i = ⟨b, o + i, none⟩ := by unfold Addr.add; split <;> simp_all

end Go.Proofs.YtpkmbhnikilihaaGreatDoor
/- The walk of seinekeep.Size: by induction on the tree. -/
namespace Go.Proofs.YtpkmbhnikilihaaGreatDoor
open Go.RowKit

mutual
def sizeV : VT → Nat
  | .mk _ _ s l m => 1 + s.size + sizeL l + sizeM m
def sizeL : VL → Nat
  | .nil => 0
  | .cons v t => sizeV v + sizeL t
def sizeM : VM → Nat
  | .nil => 0
  | .cons nm v t => nm.size + sizeV v + sizeM t
end
theorem sizeL_get : ∀ {l : VL} {j : Nat} {v : VT}, l.get j = some v → sizeV v ≤ sizeL l
  | .nil, _, _, h => by simp [VL.get] at h
  | .cons u t, 0, v, h => by
    have : u = v := by simpa [VL.get] using h
    subst this
    rw [sizeL]; omega
  | .cons u t, j + 1, v, h => by
    have := sizeL_get (l := t) (j := j) (v := v) h
    rw [sizeL]; omega
theorem sizeM_get : ∀ {l : VM} {j : Nat} {nm : ByteArray} {v : VT}, l.get j = some (nm, v) → nm.size + sizeV v ≤ sizeM l
  | .nil, _, _, _, h => by simp [VM.get] at h
  | .cons x u t, 0, nm, v, h => by
    have : x = nm ∧ u = v := by simpa [VM.get] using h
    obtain ⟨rfl, rfl⟩ := this
    rw [sizeM]; omega
  | .cons x u t, j + 1, nm, v, h => by
    have := sizeM_get (l := t) (j := j) (nm := nm) (v := v) h
    rw [sizeM]; omega
/-- The box of the argument, and nothing that was there has turned. -/
def KV (w : World) (c2 c3 c4 : Value) (w' : World) : Prop := w'.cell? ⟨w.heap.size, 2, none⟩ = some c2 ∧ w'.cell? ⟨w.heap.size, 3, none⟩ = some c3 ∧ w'.cell? ⟨w.heap.size, 4, none⟩ = some c4 ∧ Below w.heap.size w w' ∧ w.heap.size < w'.heap.size
theorem KV.next {w W W' : World} {c2 c3 c4 : Value} (h : KV w c2 c3 c4 W) (hb : Below W.heap.size W W') : KV w c2 c3 c4 W' := by
  obtain ⟨h2, h3, h4, hB, hs⟩ := h
  exact ⟨(hb.cell (p := ⟨_, _, none⟩) hs).trans h2, (hb.cell (p := ⟨_, _, none⟩) hs).trans h3, (hb.cell (p := ⟨_, _, none⟩) hs).trans h4, hB.trans (hb.mono hB.size), Nat.lt_of_lt_of_le hs hb.size⟩
theorem KV.start (w : World) (c0 c1 c2 c3 c4 : Value) (t : TypeId) : KV w c2 c3 c4 (w.alloc (.cells #[c0, c1, c2, c3, c4] t)) := by
  refine ⟨?_, ?_, ?_, (Below.refl _ _).alloc (Nat.le_refl _) _, by simp⟩ <;> (simp only [World.cell?]; rw [show (w.alloc (.cells #[c0, c1, c2, c3, c4] t)).heap[w.heap.size]? = some (.cells #[c0, c1, c2, c3, c4] t) by show (w.heap.push _)[w.heap.size]? = _; simp]; rfl)
/-- And the member at hand. -/
def KM (w : World) (c2 c3 c4 : Value) (b O : Nat) (nm d0 d1 d2 d3 d4 : Value) (w' : World) : Prop := w'.cell? ⟨w.heap.size, 4, none⟩ = some c4 ∧ w'.cell? ⟨b, O, none⟩ = some nm ∧ Five w' b (O + 1) d0 d1 d2 d3 d4 ∧ KV w c2 c3 c4 w'
theorem KM.next {w W W' : World} {c2 c3 c4 : Value} {b O : Nat} {nm d0 d1 d2 d3 d4 : Value} (h : KM w c2 c3 c4 b O nm d0 d1 d2 d3 d4 W) (hbw : b < w.heap.size) (hb : Below W.heap.size W W') : KM w c2 c3 c4 b O nm d0 d1 d2 d3 d4 W' := by
  obtain ⟨h4, hn, hF, hK⟩ := h
  have hl : b < W.heap.size := Nat.lt_trans hbw hK.2.2.2.2
  have hK' := hK.next hb
  exact ⟨hK'.2.2.1, (hb.cell (p := ⟨b, _, none⟩) hl).trans hn, hF.below hb hl, hK'⟩
theorem KM.below {w W : World} {c2 c3 c4 : Value} {b O : Nat} {nm d0 d1 d2 d3 d4 : Value} (h : KM w c2 c3 c4 b O nm d0 d1 d2 d3 d4 W) : Below w.heap.size w W := h.2.2.2.2.2.2.1
end Go.Proofs.YtpkmbhnikilihaaGreatDoor
/- The walks of seineref1.Same and seineref1.Members: by induction on the tree. -/
namespace Go.Proofs.YtpkmbhnikilihaaGreatDoor
open Go.RowKit

theorem vaside {p : Prop} (h : p) : Aside p := h
theorem vbelow_draws {B : Nat} {a w : World} (h : Below B a w) (n : Nat) : Below B a (w.drewN n) := ⟨h.os, h.tape, h.output, h.size, h.block⟩
theorem VL.ext : ∀ {l l' : VL}, l.len = l'.len → (∀ j, j < l.len → l.get j = l'.get j) → l = l'
  | .nil, .nil, _, _ => rfl
  | .nil, .cons _ _, h, _ => by simp [VL.len] at h
  | .cons _ _, .nil, h, _ => by simp [VL.len] at h
  | .cons u t, .cons u' t', h, hg => by
    have h0 : u = u' := by simpa [VL.get] using hg 0 (by rw [VL.len]; omega)
    have ht : t = t' := VL.ext (by simp only [VL.len] at h; omega) (fun j hj => by simpa [VL.get] using hg (j + 1) (by rw [VL.len]; omega))
    rw [h0, ht]
theorem VM.ext : ∀ {l l' : VM}, l.len = l'.len → (∀ j, j < l.len → l.get j = l'.get j) → l = l'
  | .nil, .nil, _, _ => rfl
  | .nil, .cons _ _ _, h, _ => by simp [VM.len] at h
  | .cons _ _ _, .nil, h, _ => by simp [VM.len] at h
  | .cons x u t, .cons x' u' t', h, hg => by
    have h0 : x = x' ∧ u = u' := by simpa [VM.get] using hg 0 (by rw [VM.len]; omega)
    have ht : t = t' := VM.ext (by simp only [VM.len] at h; omega) (fun j hj => by simpa [VM.get] using hg (j + 1) (by rw [VM.len]; omega))
    rw [h0.1, h0.2, ht]
/-- The first q agree. -/
def AgreeL (l l' : VL) (q : Nat) : Prop := ∀ j, j < q → l.get j = l'.get j
def AgreeM (l l' : VM) (q : Nat) : Prop := ∀ j, j < q → l.get j = l'.get j
theorem AgreeL.next {l l' : VL} {q : Nat} {v : VT} (h : AgreeL l l' q) (h1 : l.get q = some v) (h2 : l'.get q = some v) : AgreeL l l' (q + 1) := fun j hj => by
  rcases Nat.lt_or_ge j q with h' | h'
  · exact h j h'
  · obtain rfl : j = q := by omega
    rw [h1, h2]
theorem AgreeM.next {l l' : VM} {q : Nat} {v : ByteArray × VT} (h : AgreeM l l' q) (h1 : l.get q = some v) (h2 : l'.get q = some v) : AgreeM l l' (q + 1) := fun j hj => by
  rcases Nat.lt_or_ge j q with h' | h'
  · exact h j h'
  · obtain rfl : j = q := by omega
    rw [h1, h2]

def SameC (u : VT) : Prop := ∀ (v : VT) (c0 c1 c2 c3 c4 d0 d1 d2 d3 d4 : Value) (w : World) (B : Nat), B ≤ w.heap.size → VAt w B u c0 c1 c2 c3 c4 → VAt w B v d0 d1 d2 d3 d4 →
  Calls Tryz.prog 21 #[.agg #[c0, c1, c2, c3, c4], .agg #[d0, d1, d2, d3, d4]] w fun e w' => (∃ b, e = .returned (.bool b) ∧ (b = true ↔ u = v)) ∧ Below w.heap.size w w'
def MembC (m : VM) : Prop := ∀ (m' : VM) (A A' : Option Addr) (c c' : Nat) (w : World) (B : Nat), B ≤ w.heap.size → m.len ≤ 9223372036854775807 → m'.len ≤ 9223372036854775807 → MAt w B m A 0 → MAt w B m' A' 0 →
  Calls Tryz.prog 55 #[.slice A m.len c, .slice A' m'.len c'] w fun e w' => (∃ b, e = .returned (.bool b) ∧ (b = true ↔ m = m')) ∧ Below w.heap.size w w'
theorem vsaid {p q : Prop} {b : Bool} (h : b = true ↔ p) (hq : q) : (∃ b', Ending.returned (.bool b) = .returned (.bool b') ∧ (b' = true ↔ p)) ∧ q := ⟨⟨b, rfl, h⟩, hq⟩
theorem yes_if {p : Prop} (h : p) : true = true ↔ p := ⟨fun _ => h, fun _ => rfl⟩
theorem not_if {p : Prop} (h : ¬ p) : false = true ↔ p := ⟨fun e => by simp at e, fun e => absurd e h⟩
theorem SameC.yes {u v : VT} (h : SameC u) (e : u = v) (c0 c1 c2 c3 c4 d0 d1 d2 d3 d4 : Value) (w : World) (B : Nat) (hB : B ≤ w.heap.size) (h1 : VAt w B u c0 c1 c2 c3 c4) (h2 : VAt w B v d0 d1 d2 d3 d4) :
    Calls Tryz.prog 21 #[.agg #[c0, c1, c2, c3, c4], .agg #[d0, d1, d2, d3, d4]] w fun e w' => e = .returned (.bool true) ∧ Below w.heap.size w w' := by
  refine (h v c0 c1 c2 c3 c4 d0 d1 d2 d3 d4 w B hB h1 h2).mono ?_
  rintro e' w' ⟨⟨b, rfl, hb⟩, hw⟩
  rw [hb.2 e]
  exact ⟨rfl, hw⟩
theorem SameC.no {u v : VT} (h : SameC u) (e : ¬ u = v) (c0 c1 c2 c3 c4 d0 d1 d2 d3 d4 : Value) (w : World) (B : Nat) (hB : B ≤ w.heap.size) (h1 : VAt w B u c0 c1 c2 c3 c4) (h2 : VAt w B v d0 d1 d2 d3 d4) :
    Calls Tryz.prog 21 #[.agg #[c0, c1, c2, c3, c4], .agg #[d0, d1, d2, d3, d4]] w fun e w' => e = .returned (.bool false) ∧ Below w.heap.size w w' := by
  refine (h v c0 c1 c2 c3 c4 d0 d1 d2 d3 d4 w B hB h1 h2).mono ?_
  rintro e' w' ⟨⟨b, rfl, hb⟩, hw⟩
  have : b = false := by cases b; rfl; exact absurd (hb.1 rfl) e
  rw [this]
  exact ⟨rfl, hw⟩
/-- Two members at hand. -/
def KE (w : World) (b O : Nat) (nm d0 d1 d2 d3 d4 : Value) (b' O' : Nat) (nm' f0 f1 f2 f3 f4 : Value) (W : World) : Prop :=
  W.cell? ⟨b, O, none⟩ = some nm ∧ Five W b (O + 1) d0 d1 d2 d3 d4 ∧ W.cell? ⟨b', O', none⟩ = some nm' ∧ Five W b' (O' + 1) f0 f1 f2 f3 f4 ∧ Below w.heap.size w W
theorem KE.next {w W W' : World} {b O : Nat} {nm d0 d1 d2 d3 d4 : Value} {b' O' : Nat} {nm' f0 f1 f2 f3 f4 : Value} (h : KE w b O nm d0 d1 d2 d3 d4 b' O' nm' f0 f1 f2 f3 f4 W) (hl : b < w.heap.size) (hl' : b' < w.heap.size) (hb : Below W.heap.size W W') : KE w b O nm d0 d1 d2 d3 d4 b' O' nm' f0 f1 f2 f3 f4 W' := by
  obtain ⟨h1, h2, h3, h4, hB⟩ := h
  have g := Nat.lt_of_lt_of_le hl hB.size
  have g' := Nat.lt_of_lt_of_le hl' hB.size
  exact ⟨(hb.cell (p := ⟨b, _, none⟩) g).trans h1, h2.below hb g, (hb.cell (p := ⟨b', _, none⟩) g').trans h3, h4.below hb g', hB.trans (hb.mono hB.size)⟩
theorem KE.written {w W : World} {b O : Nat} {nm d0 d1 d2 d3 d4 : Value} {b' O' : Nat} {nm' f0 f1 f2 f3 f4 : Value} (h : KE w b O nm d0 d1 d2 d3 d4 b' O' nm' f0 f1 f2 f3 f4 W) :
    W.cell? ⟨b, O, none⟩ = some nm ∧ W.cell? ⟨b, O + 1, none⟩ = some d0 ∧ W.cell? ⟨b, O + 1 + 1, none⟩ = some d1 ∧ W.cell? ⟨b, O + 1 + 2, none⟩ = some d2 ∧ W.cell? ⟨b, O + 1 + 3, none⟩ = some d3 ∧ W.cell? ⟨b, O + 1 + 4, none⟩ = some d4 ∧
    W.cell? ⟨b', O', none⟩ = some nm' ∧ W.cell? ⟨b', O' + 1, none⟩ = some f0 ∧ W.cell? ⟨b', O' + 1 + 1, none⟩ = some f1 ∧ W.cell? ⟨b', O' + 1 + 2, none⟩ = some f2 ∧ W.cell? ⟨b', O' + 1 + 3, none⟩ = some f3 ∧ W.cell? ⟨b', O' + 1 + 4, none⟩ = some f4 ∧
    KE w b O nm d0 d1 d2 d3 d4 b' O' nm' f0 f1 f2 f3 f4 W :=
  ⟨h.1, h.2.1.1, h.2.1.2.1, h.2.1.2.2.1, h.2.1.2.2.2.1, h.2.1.2.2.2.2, h.2.2.1, h.2.2.2.1.1, h.2.2.2.1.2.1, h.2.2.2.1.2.2.1, h.2.2.2.1.2.2.2.1, h.2.2.2.1.2.2.2.2, h⟩

set_option maxRecDepth 100000 in
set_option maxHeartbeats 4000000 in
theorem memb_any (N : Nat) (H : ∀ u, sizeV u ≤ N → SameC u) : ∀ m, sizeM m ≤ N → MembC m := by
  intro m hm m' A A' c c' w B hB hl hl' h1 h2
  have H1 := Lib.hid h1
  have H2 := Lib.hid h2
  have HS := Lib.hid H
  have HB0 := Lib.hid hB
  clear h1 h2 H hB
  by_cases hlen : m.len = m'.len
  · generalize hn : m.len = n at *
    have HN := Lib.hid hn
    have HN' := Lib.hid hlen
    subst hlen
    clear hn
    have e0 : ((m'.len : Int) != (m'.len : Int)) = false := by simp
    go_enter Tryz.func55, Tryz.ntmps55
    go_wp2_with fail
    go_loopg [5] m'.len (fun g i wx => ∃ q : Nat, q + g = m'.len ∧ i = .int .i64 q ∧ Below w.heap.size w wx ∧ Aside (AgreeM m m' q))
    case atStart => exact ⟨0, by omega, rfl, Below.refl _ _, vaside (fun j hj => by omega)⟩
    case round =>
      obtain ⟨q, hq, rfl, hb, HA⟩ := hrel
      have HBB := Lib.hid hb
      clear hb
      cases gk with
      | zero =>
        obtain rfl : q = m'.len := by omega
        have hE : Hid (m = m') := Lib.hid (VM.ext HN.out (by rw [HN.out]; exact HA.out))
        clear HA
        go_wp2_with fail
        go_ret
        exact vsaid (yes_if hE.out) HBB.out
      | succ g =>
        have hqn : q < m'.len := by omega
        have hqn' : (q : Int) < (m'.len : Int) := by omega
        obtain ⟨⟨nm, v⟩, hv⟩ := VM.get_lt (l := m) (j := q) (by rw [HN.out]; exact hqn)
        obtain ⟨⟨nm', v'⟩, hv'⟩ := VM.get_lt hqn
        have hvN := sizeM_get hv
        obtain ⟨b, o, d0, d1, d2, d3, d4, rfl, hblt, hnm, hns, hF, hV⟩ := MAt.at (MAt.below (HBB.out.mono HB0.out) _ _ _ H1.out) hv
        obtain ⟨b', o', f0, f1, f2, f3, f4, rfl, hblt', hnm', hns', hF', hV'⟩ := MAt.at (MAt.below (HBB.out.mono HB0.out) _ _ _ H2.out) hv'
        rw [Nat.zero_add] at hF hnm hF' hnm'
        have hE := Lib.hid hv
        have hE' := Lib.hid hv'
        clear hv hv'
        by_cases hnn : nm = nm'
        · subst hnn
          have e1 : (nm.toList != nm.toList) = false := by simp
          have e1' : (nm.toList == nm.toList) = true := by simp
          have HBW : Hid (b < w.heap.size) := Lib.hid (Nat.lt_of_lt_of_le hblt HB0.out)
          have HBW' : Hid (b' < w.heap.size) := Lib.hid (Nat.lt_of_lt_of_le hblt' HB0.out)
          have hE0 : KE w b (o + q * 6) (.string nm) d0 d1 d2 d3 d4 b' (o' + q * 6) (.string nm) f0 f1 f2 f3 f4 wr := ⟨hnm, hF, hnm', hF', HBB.out⟩
          obtain ⟨g0, g1, g2, g3, g4⟩ := hF
          obtain ⟨g5, g6, g7, g8, g9⟩ := hF'
          by_cases hvv : v = v'
          · subst hvv
            have C := fun (wx : World) (hx : Below wr.heap.size wr wx) => Lib.hid ((HS.out v (by omega)).yes rfl d0 d1 d2 d3 d4 f0 f1 f2 f3 f4 wx B (Nat.le_trans HB0.out (Nat.le_trans HBB.out.size hx.size)) (VAt.below (hx.mono (Nat.le_trans HB0.out HBB.out.size)) _ _ _ _ _ _ hV) (VAt.below (hx.mono (Nat.le_trans HB0.out HBB.out.size)) _ _ _ _ _ _ hV'))
            have hnx : Hid (AgreeM m m' (q + 1)) := Lib.hid (AgreeM.next HA.out hE.out hE'.out)
            clear hV hV' HA hvN hblt hblt'
            go_wp2_with fail
            go_region_held3 (fun w' => w'.cell? ⟨b, o + q * 6, none⟩ = some (.string nm) ∧ w'.cell? ⟨b, o + q * 6 + 1, none⟩ = some d0 ∧ w'.cell? ⟨b, o + q * 6 + 1 + 1, none⟩ = some d1 ∧ w'.cell? ⟨b, o + q * 6 + 1 + 2, none⟩ = some d2 ∧ w'.cell? ⟨b, o + q * 6 + 1 + 3, none⟩ = some d3 ∧ w'.cell? ⟨b, o + q * 6 + 1 + 4, none⟩ = some d4 ∧ w'.cell? ⟨b', o' + q * 6, none⟩ = some (.string nm) ∧ w'.cell? ⟨b', o' + q * 6 + 1, none⟩ = some f0 ∧ w'.cell? ⟨b', o' + q * 6 + 1 + 1, none⟩ = some f1 ∧ w'.cell? ⟨b', o' + q * 6 + 1 + 2, none⟩ = some f2 ∧ w'.cell? ⟨b', o' + q * 6 + 1 + 3, none⟩ = some f3 ∧ w'.cell? ⟨b', o' + q * 6 + 1 + 4, none⟩ = some f4 ∧ KE w b (o + q * 6) (.string nm) d0 d1 d2 d3 d4 b' (o' + q * 6) (.string nm) f0 f1 f2 f3 f4 w')
              (first
                | exact KE.written (KE.next hE0 HBW.out HBW'.out (Below.drew (Below.refl _ _)))
                | exact KE.written ((KE.next hE0 HBW.out HBW'.out (Below.drew (Below.refl _ _))).next HBW.out HBW'.out (by assumption))
                | exact KE.written (KE.next hE0 HBW.out HBW'.out (by assumption))
                | exact KE.written (KE.next (by assumption) HBW.out HBW'.out (by assumption))
                | go_keep)
              ((first | (go_at_call 21; refine (C _ (by first | exact Below.drew (Below.refl _ _) | exact Below.refl _ _ | assumption)).out.mono ?_; rintro e w' ⟨rfl, hb⟩)))
            all_goals
              have HKM : KE w b (o + q * 6) (.string nm) d0 d1 d2 d3 d4 b' (o' + q * 6) (.string nm) f0 f1 f2 f3 f4 w' := And.right (And.right (And.right (And.right (And.right (And.right (And.right (And.right (And.right (And.right (And.right (And.right (by assumption))))))))))))
              have HKB := Lib.hid HKM.2.2.2.2
              clear HKM hE0 C g0 g1 g2 g3 g4 g5 g6 g7 g8 g9
              go_wp2_with fail
              go_roundg g
              case measure => omega
              case rel => exact ⟨q + 1, by omega, by go_num, HKB.out, vaside hnx.out⟩
          · have C := fun (wx : World) (hx : Below wr.heap.size wr wx) => Lib.hid ((HS.out v (by omega)).no hvv d0 d1 d2 d3 d4 f0 f1 f2 f3 f4 wx B (Nat.le_trans HB0.out (Nat.le_trans HBB.out.size hx.size)) (VAt.below (hx.mono (Nat.le_trans HB0.out HBB.out.size)) _ _ _ _ _ _ hV) (VAt.below (hx.mono (Nat.le_trans HB0.out HBB.out.size)) _ _ _ _ _ _ hV'))
            have hno : Hid (¬ m = m') := Lib.hid (fun h => by
              subst h
              have := hE.out.symm.trans hE'.out
              simp only [Option.some.injEq, Prod.mk.injEq] at this
              exact hvv this.2)
            clear hV hV' HA hvN hblt hblt' hvv
            go_wp2_with fail
            go_region_held3 (fun w' => w'.cell? ⟨b, o + q * 6, none⟩ = some (.string nm) ∧ w'.cell? ⟨b, o + q * 6 + 1, none⟩ = some d0 ∧ w'.cell? ⟨b, o + q * 6 + 1 + 1, none⟩ = some d1 ∧ w'.cell? ⟨b, o + q * 6 + 1 + 2, none⟩ = some d2 ∧ w'.cell? ⟨b, o + q * 6 + 1 + 3, none⟩ = some d3 ∧ w'.cell? ⟨b, o + q * 6 + 1 + 4, none⟩ = some d4 ∧ w'.cell? ⟨b', o' + q * 6, none⟩ = some (.string nm) ∧ w'.cell? ⟨b', o' + q * 6 + 1, none⟩ = some f0 ∧ w'.cell? ⟨b', o' + q * 6 + 1 + 1, none⟩ = some f1 ∧ w'.cell? ⟨b', o' + q * 6 + 1 + 2, none⟩ = some f2 ∧ w'.cell? ⟨b', o' + q * 6 + 1 + 3, none⟩ = some f3 ∧ w'.cell? ⟨b', o' + q * 6 + 1 + 4, none⟩ = some f4 ∧ KE w b (o + q * 6) (.string nm) d0 d1 d2 d3 d4 b' (o' + q * 6) (.string nm) f0 f1 f2 f3 f4 w')
              (first
                | exact KE.written (KE.next hE0 HBW.out HBW'.out (Below.drew (Below.refl _ _)))
                | exact KE.written ((KE.next hE0 HBW.out HBW'.out (Below.drew (Below.refl _ _))).next HBW.out HBW'.out (by assumption))
                | exact KE.written (KE.next hE0 HBW.out HBW'.out (by assumption))
                | exact KE.written (KE.next (by assumption) HBW.out HBW'.out (by assumption))
                | go_keep)
              ((first | (go_at_call 21; refine (C _ (by first | exact Below.drew (Below.refl _ _) | exact Below.refl _ _ | assumption)).out.mono ?_; rintro e w' ⟨rfl, hb⟩)))
            all_goals
              have HKM : KE w b (o + q * 6) (.string nm) d0 d1 d2 d3 d4 b' (o' + q * 6) (.string nm) f0 f1 f2 f3 f4 w' := And.right (And.right (And.right (And.right (And.right (And.right (And.right (And.right (And.right (And.right (And.right (And.right (by assumption))))))))))))
              have HKB := Lib.hid HKM.2.2.2.2
              clear HKM hE0 C g0 g1 g2 g3 g4 g5 g6 g7 g8 g9
              go_wp2_with fail
              go_ret
              exact vsaid (not_if hno.out) HKB.out
        · have hne : nm.toList ≠ nm'.toList := fun h => hnn (by
            rw [ByteArray.toList_eq, ByteArray.toList_eq] at h
            exact ByteArray.ext (Array.toList_inj.1 h))
          have e1 : (nm.toList != nm'.toList) = true := by simpa using hne
          have e1' : (nm.toList == nm'.toList) = false := by simpa using hne
          have hno : Hid (¬ m = m') := Lib.hid (fun h => by
            subst h
            have := hE.out.symm.trans hE'.out
            simp only [Option.some.injEq, Prod.mk.injEq] at this
            exact hnn this.1)
          clear hne hnn HA hV hV' hF hF'
          go_wp2_with fail
          go_quiet (fail)
          go_wp2
          go_ret
          exact vsaid (not_if hno.out) (vbelow_draws HBB.out _)
  · have hno : Hid (¬ m = m') := Lib.hid (fun h => hlen (by rw [h]))
    have e0 : ((m.len : Int) != (m'.len : Int)) = true := by simp; omega
    clear H1 H2 HS hlen
    go_enter Tryz.func55, Tryz.ntmps55
    go_wp2
    go_ret
    exact vsaid (not_if hno.out) (Below.refl _ _)
end Go.Proofs.YtpkmbhnikilihaaGreatDoor
