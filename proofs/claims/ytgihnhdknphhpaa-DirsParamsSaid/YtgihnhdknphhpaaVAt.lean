/- Values as plain trees, how they lie in memory, and a value that comes in, opened. -/
import Derived.Test.YtgihnhdknphhpaaRows
import Derived.WalkKit
import Derived.ProofKit
import Derived.Carry
import Derived.Deep.Strs
import Derived.Deep.Slices
import Derived.Lib.Hide
namespace Go.Proofs.Ytgihnhdknphhpaa
open Go.ChangeShapes Go.WideShapes Go.ChangeAt Go.RowKit

mutual
/-- A value: its kind, its number, its text, its elements, its members. -/
inductive VT where
  | mk (k n : Int) (s : ByteArray) (l : VL) (m : VM)
inductive VL where
  | nil
  | cons (v : VT) (t : VL)
inductive VM where
  | nil
  | cons (name : ByteArray) (v : VT) (t : VM)
end
def VL.len : VL → Nat
  | .nil => 0
  | .cons _ t => t.len + 1
def VM.len : VM → Nat
  | .nil => 0
  | .cons _ _ t => t.len + 1
def VL.get : VL → Nat → Option VT
  | .nil, _ => none
  | .cons v _, 0 => some v
  | .cons _ t, j + 1 => t.get j
def VM.get : VM → Nat → Option (ByteArray × VT)
  | .nil, _ => none
  | .cons nm v _, 0 => some (nm, v)
  | .cons _ _ t, j + 1 => t.get j
theorem VL.get_lt : ∀ {l : VL} {j : Nat}, j < l.len → ∃ v, l.get j = some v
  | .nil, _, h => by simp [VL.len] at h
  | .cons v _, 0, _ => ⟨v, rfl⟩
  | .cons _ t, j + 1, h => VL.get_lt (l := t) (by simp [VL.len] at h; omega)
theorem VM.get_lt : ∀ {l : VM} {j : Nat}, j < l.len → ∃ v, l.get j = some v
  | .nil, _, h => by simp [VM.len] at h
  | .cons nm v _, 0, _ => ⟨(nm, v), rfl⟩
  | .cons _ _ t, j + 1, h => VM.get_lt (l := t) (by simp [VM.len] at h; omega)
/-- Five cells in a row. -/
def Five (w : World) (b o : Nat) (c0 c1 c2 c3 c4 : Value) : Prop := w.cell? ⟨b, o, none⟩ = some c0 ∧ w.cell? ⟨b, o + 1, none⟩ = some c1 ∧ w.cell? ⟨b, o + 2, none⟩ = some c2 ∧ w.cell? ⟨b, o + 3, none⟩ = some c3 ∧ w.cell? ⟨b, o + 4, none⟩ = some c4
theorem Five.below {w w' : World} {B b o : Nat} {c0 c1 c2 c3 c4 : Value} (h : Five w b o c0 c1 c2 c3 c4) (hb : Below B w w') (hlt : b < B) : Five w' b o c0 c1 c2 c3 c4 :=
  ⟨(hb.cell (p := ⟨b, _, none⟩) hlt).trans h.1, (hb.cell (p := ⟨b, _, none⟩) hlt).trans h.2.1, (hb.cell (p := ⟨b, _, none⟩) hlt).trans h.2.2.1, (hb.cell (p := ⟨b, _, none⟩) hlt).trans h.2.2.2.1, (hb.cell (p := ⟨b, _, none⟩) hlt).trans h.2.2.2.2⟩
mutual
/-- These five values are the fields of the tree; all that they reach lies below block B. -/
def VAt (w : World) (B : Nat) : VT → Value → Value → Value → Value → Value → Prop
  | .mk k n s l m, c0, c1, c2, c3, c4 => c0 = .int .i64 k ∧ c1 = .int .i64 n ∧ c2 = .string s ∧ s.size ≤ 9223372036854775807 ∧ (∃ A c, c3 = .slice A l.len c ∧ l.len ≤ 9223372036854775807 ∧ LAt w B l A 0) ∧ ∃ A c, c4 = .slice A m.len c ∧ m.len ≤ 9223372036854775807 ∧ MAt w B m A 0
def LAt (w : World) (B : Nat) : VL → Option Addr → Nat → Prop
  | .nil, _, _ => True
  | .cons v t, A, j => (∃ b o c0 c1 c2 c3 c4, A = some ⟨b, o, none⟩ ∧ b < B ∧ Five w b (o + j * 5) c0 c1 c2 c3 c4 ∧ VAt w B v c0 c1 c2 c3 c4) ∧ LAt w B t A (j + 1)
def MAt (w : World) (B : Nat) : VM → Option Addr → Nat → Prop
  | .nil, _, _ => True
  | .cons nm v t, A, j => (∃ b o c0 c1 c2 c3 c4, A = some ⟨b, o, none⟩ ∧ b < B ∧ w.cell? ⟨b, o + j * 6, none⟩ = some (.string nm) ∧ nm.size ≤ 9223372036854775807 ∧ Five w b (o + j * 6 + 1) c0 c1 c2 c3 c4 ∧ VAt w B v c0 c1 c2 c3 c4) ∧ MAt w B t A (j + 1)
end
mutual
theorem VAt.below {w w' : World} {B : Nat} (hb : Below B w w') : ∀ (v : VT) (c0 c1 c2 c3 c4 : Value), VAt w B v c0 c1 c2 c3 c4 → VAt w' B v c0 c1 c2 c3 c4
  | .mk k n s l m, c0, c1, c2, c3, c4, h => by
    unfold VAt at h ⊢
    obtain ⟨h0, h1, h2, hs, ⟨A, c, h3, g3, h4⟩, A', c', h5, g5, h6⟩ := h
    exact ⟨h0, h1, h2, hs, ⟨A, c, h3, g3, LAt.below hb l A 0 h4⟩, A', c', h5, g5, MAt.below hb m A' 0 h6⟩
theorem LAt.below {w w' : World} {B : Nat} (hb : Below B w w') : ∀ (l : VL) (A : Option Addr) (j : Nat), LAt w B l A j → LAt w' B l A j
  | .nil, _, _, _ => by unfold LAt; trivial
  | .cons v t, A, j, h => by
    unfold LAt at h ⊢
    obtain ⟨⟨b, o, c0, c1, c2, c3, c4, hA, hlt, hf, hv⟩, ht⟩ := h
    exact ⟨⟨b, o, c0, c1, c2, c3, c4, hA, hlt, hf.below hb hlt, VAt.below hb v _ _ _ _ _ hv⟩, LAt.below hb t A (j + 1) ht⟩
theorem MAt.below {w w' : World} {B : Nat} (hb : Below B w w') : ∀ (l : VM) (A : Option Addr) (j : Nat), MAt w B l A j → MAt w' B l A j
  | .nil, _, _, _ => by unfold MAt; trivial
  | .cons nm v t, A, j, h => by
    unfold MAt at h ⊢
    obtain ⟨⟨b, o, c0, c1, c2, c3, c4, hA, hlt, hn, hz, hf, hv⟩, ht⟩ := h
    exact ⟨⟨b, o, c0, c1, c2, c3, c4, hA, hlt, (hb.cell (p := ⟨b, _, none⟩) hlt).trans hn, hz, hf.below hb hlt, VAt.below hb v _ _ _ _ _ hv⟩, MAt.below hb t A (j + 1) ht⟩
end
theorem LAt.at {w : World} {B : Nat} : ∀ {l : VL} {A : Option Addr} {i j : Nat} {v : VT}, LAt w B l A i → l.get j = some v → ∃ b o c0 c1 c2 c3 c4, A = some ⟨b, o, none⟩ ∧ b < B ∧ Five w b (o + (i + j) * 5) c0 c1 c2 c3 c4 ∧ VAt w B v c0 c1 c2 c3 c4
  | .nil, _, _, _, _, _, h => by simp [VL.get] at h
  | .cons u t, A, i, 0, v, h, hg => by
    unfold LAt at h
    have : u = v := by simpa [VL.get] using hg
    subst this
    exact h.1
  | .cons u t, A, i, j + 1, v, h, hg => by
    unfold LAt at h
    have := LAt.at h.2 (j := j) (v := v) hg
    rwa [show i + 1 + j = i + (j + 1) by omega] at this
theorem MAt.at {w : World} {B : Nat} : ∀ {l : VM} {A : Option Addr} {i j : Nat} {nm : ByteArray} {v : VT}, MAt w B l A i → l.get j = some (nm, v) → ∃ b o c0 c1 c2 c3 c4, A = some ⟨b, o, none⟩ ∧ b < B ∧ w.cell? ⟨b, o + (i + j) * 6, none⟩ = some (.string nm) ∧ nm.size ≤ 9223372036854775807 ∧ Five w b (o + (i + j) * 6 + 1) c0 c1 c2 c3 c4 ∧ VAt w B v c0 c1 c2 c3 c4
  | .nil, _, _, _, _, _, _, h => by simp [VM.get] at h
  | .cons u x t, A, i, 0, nm, v, h, hg => by
    unfold MAt at h
    have : u = nm ∧ x = v := by simpa [VM.get] using hg
    obtain ⟨rfl, rfl⟩ := this
    exact h.1
  | .cons u x t, A, i, j + 1, nm, v, h, hg => by
    unfold MAt at h
    have := MAt.at h.2 (j := j) (nm := nm) (v := v) hg
    rwa [show i + 1 + j = i + (j + 1) by omega] at this
/-- A list of trees out of its elements, each by itself. -/
theorem build_list {w : World} {B : Nat} {A : Option Addr} : ∀ (n j : Nat), (∀ i, j ≤ i → i < j + n → ∃ v b o c0 c1 c2 c3 c4, A = some ⟨b, o, none⟩ ∧ b < B ∧ Five w b (o + i * 5) c0 c1 c2 c3 c4 ∧ VAt w B v c0 c1 c2 c3 c4) → ∃ l : VL, l.len = n ∧ LAt w B l A j
  | 0, _, _ => ⟨.nil, rfl, by unfold LAt; trivial⟩
  | n + 1, j, h => by
    obtain ⟨v, h0⟩ := h j (Nat.le_refl _) (by omega)
    obtain ⟨l, h1, h2⟩ := build_list n (j + 1) (fun i h1 h2 => h i (by omega) (by omega))
    exact ⟨.cons v l, by rw [VL.len, h1], by unfold LAt; exact ⟨h0, h2⟩⟩
theorem build_members {w : World} {B : Nat} {A : Option Addr} : ∀ (n j : Nat), (∀ i, j ≤ i → i < j + n → ∃ nm v b o c0 c1 c2 c3 c4, A = some ⟨b, o, none⟩ ∧ b < B ∧ w.cell? ⟨b, o + i * 6, none⟩ = some (.string nm) ∧ nm.size ≤ 9223372036854775807 ∧ Five w b (o + i * 6 + 1) c0 c1 c2 c3 c4 ∧ VAt w B v c0 c1 c2 c3 c4) → ∃ l : VM, l.len = n ∧ MAt w B l A j
  | 0, _, _ => ⟨.nil, rfl, by unfold MAt; trivial⟩
  | n + 1, j, h => by
    obtain ⟨nm, v, h0⟩ := h j (Nat.le_refl _) (by omega)
    obtain ⟨l, h1, h2⟩ := build_members n (j + 1) (fun i h1 h2 => h i (by omega) (by omega))
    exact ⟨.cons nm v l, by rw [VM.len, h1], by unfold MAt; exact ⟨h0, h2⟩⟩

theorem cellsV : Try.prog.cellsOf 28 = 5 := by kernel_rfl
theorem cellsM : Try.prog.cellsOf 57 = 6 := by kernel_rfl
theorem cellsI : Try.prog.cellsOf 3 = 1 := by kernel_rfl
theorem cellsI64 : Try.prog.cellsOf 2 = 1 := by kernel_rfl
theorem cellsS : Try.prog.cellsOf 9 = 1 := by kernel_rfl
theorem cellsLV : Try.prog.cellsOf 25 = 1 := by kernel_rfl
theorem cellsLM : Try.prog.cellsOf 26 = 1 := by kernel_rfl
theorem five_list {cs : List Value} (h : cs.length = 5) : ∃ c0 c1 c2 c3 c4, cs = [c0, c1, c2, c3, c4] := by
  match cs, h with
  | [a, b, c, d, e], _ => exact ⟨a, b, c, d, e, rfl⟩
theorem six_list {cs : List Value} (h : cs.length = 6) : ∃ c0 c1 c2 c3 c4 c5, cs = [c0, c1, c2, c3, c4, c5] := by
  match cs, h with
  | [a, b, c, d, e, f], _ => exact ⟨a, b, c, d, e, f, rfl⟩
theorem add_at {b o i : Nat} : (⟨b, o, none⟩ : Addr).add i = ⟨b, o + i, none⟩ := by unfold Addr.add; split <;> simp_all

set_option maxRecDepth 100000 in
/-- A value that comes in: a tree in memory that was there. -/
theorem open_tree {H : Type} {enc : TypeId × Value → H} {W : World} : ∀ (fuel : Nat) (cs : List Value) (x : DataW H × List MemPlace), DataW.trod enc Try.prog W 0 (fun _ => true) true fuel 28 cs = some x →
    ∃ v c0 c1 c2 c3 c4, cs = [c0, c1, c2, c3, c4] ∧ VAt W W.heap.size v c0 c1 c2 c3 c4 := by
  intro fuel
  induction fuel using Nat.strongRecOn with
  | ind fuel ih =>
    intro cs x h
    obtain ⟨xs, n, rfl, _, hl, hxl, hf⟩ := DataW.trod_struct Try.underlying28 h
    rw [cellsV] at hl
    obtain ⟨c0, c1, c2, c3, c4, rfl⟩ := five_list hl
    have f0 : DataW.trod enc Try.prog W 0 (fun _ => true) true n 3 [c0] = xs[0]? := by have h := hf 0 _ rfl; have h' : DataW.trod enc Try.prog W 0 (fun _ => true) true n 3 (([c0, c1, c2, c3, c4].drop 0).take (Try.prog.cellsOf 3)) = xs[0]? := h; rw [cellsI] at h'; exact h'
    have f1 : DataW.trod enc Try.prog W 0 (fun _ => true) true n 2 [c1] = xs[1]? := by have h := hf 1 _ rfl; have h' : DataW.trod enc Try.prog W 0 (fun _ => true) true n 2 (([c0, c1, c2, c3, c4].drop 1).take (Try.prog.cellsOf 2)) = xs[1]? := h; rw [cellsI64] at h'; exact h'
    have f2 : DataW.trod enc Try.prog W 0 (fun _ => true) true n 9 [c2] = xs[2]? := by have h := hf 2 _ rfl; have h' : DataW.trod enc Try.prog W 0 (fun _ => true) true n 9 (([c0, c1, c2, c3, c4].drop 2).take (Try.prog.cellsOf 9)) = xs[2]? := h; rw [cellsS] at h'; exact h'
    have f3 : DataW.trod enc Try.prog W 0 (fun _ => true) true n 25 [c3] = xs[3]? := by have h := hf 3 _ rfl; have h' : DataW.trod enc Try.prog W 0 (fun _ => true) true n 25 (([c0, c1, c2, c3, c4].drop 3).take (Try.prog.cellsOf 25)) = xs[3]? := h; rw [cellsLV] at h'; exact h'
    have f4 : DataW.trod enc Try.prog W 0 (fun _ => true) true n 26 [c4] = xs[4]? := by have h := hf 4 _ rfl; have h' : DataW.trod enc Try.prog W 0 (fun _ => true) true n 26 (([c0, c1, c2, c3, c4].drop 4).take (Try.prog.cellsOf 26)) = xs[4]? := h; rw [cellsLM] at h'; exact h'
    obtain ⟨y0, hy0⟩ : ∃ y, xs[0]? = some y := ⟨_, List.getElem?_eq_getElem (by rw [hxl]; decide)⟩
    obtain ⟨y1, hy1⟩ : ∃ y, xs[1]? = some y := ⟨_, List.getElem?_eq_getElem (by rw [hxl]; decide)⟩
    obtain ⟨y2, hy2⟩ : ∃ y, xs[2]? = some y := ⟨_, List.getElem?_eq_getElem (by rw [hxl]; decide)⟩
    obtain ⟨y3, hy3⟩ : ∃ y, xs[3]? = some y := ⟨_, List.getElem?_eq_getElem (by rw [hxl]; decide)⟩
    obtain ⟨y4, hy4⟩ : ∃ y, xs[4]? = some y := ⟨_, List.getElem?_eq_getElem (by rw [hxl]; decide)⟩
    rw [hy0] at f0
    rw [hy1] at f1
    rw [hy2] at f2
    rw [hy3] at f3
    rw [hy4] at f4
    obtain ⟨k, e0, _, _⟩ := DataW.trod_int Try.underlying3 f0
    obtain ⟨m, e1, _, _⟩ := DataW.trod_int Try.underlying2 f1
    obtain ⟨t, e2, _, ht⟩ := DataW.trod_string Try.underlying9 f2
    have elems_of : ∀ (a : Addr) (len n' : Nat) (elems : List (DataW H × List MemPlace)), n' < n + 1 → elems.length = len → (∀ i, i < len → (W.cells? 0 (a.add (i * Try.prog.cellsOf 28)) (Try.prog.cellsOf 28)).bind (DataW.trod enc Try.prog W 0 (fun _ => true) true n' 28) = elems[i]?) → ∃ l : VL, l.len = len ∧ LAt W W.heap.size l (some a) 0 := by
      intro a len n' elems hn' hel hat
      rw [cellsV] at hat
      rcases Nat.eq_zero_or_pos len with hz0 | hz0
      · exact ⟨.nil, hz0.symm, by unfold LAt; trivial⟩
      obtain ⟨b, o, spot⟩ := a
      have hspot : spot = none := by
        have h1 := hat 0 hz0
        obtain ⟨z, hz⟩ : ∃ z, elems[0]? = some z := ⟨_, List.getElem?_eq_getElem (by omega)⟩
        rw [hz] at h1
        obtain ⟨cs', hc', _⟩ := Option.bind_eq_some_iff.1 h1
        obtain ⟨_, hl', hat'⟩ := World.cells?_some hc'
        have h2 := hat' 0 (by omega)
        rw [List.getElem?_eq_getElem (by omega)] at h2
        simpa [Addr.add] using World.cell?_spot h2
      subst hspot
      refine build_list len 0 (fun i _ hi => ?_)
      have h1 := hat i (by omega)
      obtain ⟨z, hz⟩ : ∃ z, elems[i]? = some z := ⟨_, List.getElem?_eq_getElem (by omega)⟩
      rw [hz] at h1
      obtain ⟨cs', hc', ht'⟩ := Option.bind_eq_some_iff.1 h1
      obtain ⟨v, d0, d1, d2, d3, d4, rfl, hv⟩ := ih n' hn' cs' z ht'
      obtain ⟨_, _, hat'⟩ := World.cells?_some hc'
      simp only [add_at] at hat'
      have g0 := hat' 0 (by omega)
      have g1 := hat' 1 (by omega)
      have g2 := hat' 2 (by omega)
      have g3 := hat' 3 (by omega)
      have g4 := hat' 4 (by omega)
      exact ⟨v, b, o, d0, d1, d2, d3, d4, rfl, World.block_lt_of_cell? W _ (g0.trans rfl), ⟨g0.trans rfl, g1.trans rfl, g2.trans rfl, g3.trans rfl, g4.trans rfl⟩, hv⟩
    have members_of : ∀ (a : Addr) (len n' : Nat) (elems : List (DataW H × List MemPlace)), n' < n + 1 → elems.length = len → (∀ i, i < len → (W.cells? 0 (a.add (i * Try.prog.cellsOf 57)) (Try.prog.cellsOf 57)).bind (DataW.trod enc Try.prog W 0 (fun _ => true) true n' 57) = elems[i]?) → ∃ l : VM, l.len = len ∧ MAt W W.heap.size l (some a) 0 := by
      intro a len n' elems hn' hel hat
      rw [cellsM] at hat
      rcases Nat.eq_zero_or_pos len with hz0 | hz0
      · exact ⟨.nil, hz0.symm, by unfold MAt; trivial⟩
      obtain ⟨b, o, spot⟩ := a
      have hspot : spot = none := by
        have h1 := hat 0 hz0
        obtain ⟨z, hz⟩ : ∃ z, elems[0]? = some z := ⟨_, List.getElem?_eq_getElem (by omega)⟩
        rw [hz] at h1
        obtain ⟨cs', hc', _⟩ := Option.bind_eq_some_iff.1 h1
        obtain ⟨_, hl', hat'⟩ := World.cells?_some hc'
        have h2 := hat' 0 (by omega)
        rw [List.getElem?_eq_getElem (by omega)] at h2
        simpa [Addr.add] using World.cell?_spot h2
      subst hspot
      refine build_members len 0 (fun i _ hi => ?_)
      have h1 := hat i (by omega)
      obtain ⟨z, hz⟩ : ∃ z, elems[i]? = some z := ⟨_, List.getElem?_eq_getElem (by omega)⟩
      rw [hz] at h1
      obtain ⟨cs', hc', ht'⟩ := Option.bind_eq_some_iff.1 h1
      obtain ⟨ys, n2, hn2, _, hl2, hyl, hf2⟩ := DataW.trod_struct Try.underlying57 ht'
      rw [cellsM] at hl2
      obtain ⟨d, d0, d1, d2, d3, d4, rfl⟩ := six_list hl2
      have p0 : DataW.trod enc Try.prog W 0 (fun _ => true) true n2 9 [d] = ys[0]? := by have h' : DataW.trod enc Try.prog W 0 (fun _ => true) true n2 9 (([d, d0, d1, d2, d3, d4].drop 0).take (Try.prog.cellsOf 9)) = ys[0]? := hf2 0 _ rfl; rw [cellsS] at h'; exact h'
      have p1 : DataW.trod enc Try.prog W 0 (fun _ => true) true n2 28 [d0, d1, d2, d3, d4] = ys[1]? := by have h' : DataW.trod enc Try.prog W 0 (fun _ => true) true n2 28 (([d, d0, d1, d2, d3, d4].drop 1).take (Try.prog.cellsOf 28)) = ys[1]? := hf2 1 _ rfl; rw [cellsV] at h'; exact h'
      obtain ⟨u0, hu0⟩ : ∃ y, ys[0]? = some y := ⟨_, List.getElem?_eq_getElem (by rw [hyl]; decide)⟩
      obtain ⟨u1, hu1⟩ : ∃ y, ys[1]? = some y := ⟨_, List.getElem?_eq_getElem (by rw [hyl]; decide)⟩
      rw [hu0] at p0
      rw [hu1] at p1
      obtain ⟨nm, e, _, hnm⟩ := DataW.trod_string Try.underlying9 p0
      obtain ⟨v, q0, q1, q2, q3, q4, hq, hv⟩ := ih n2 (by omega) _ u1 p1
      simp only [List.cons.injEq, and_true] at hq e
      obtain ⟨rfl, rfl, rfl, rfl, rfl⟩ := hq
      subst e
      obtain ⟨_, _, hat'⟩ := World.cells?_some hc'
      simp only [add_at] at hat'
      have g0 := hat' 0 (by omega)
      have g1 := hat' 1 (by omega)
      have g2 := hat' 2 (by omega)
      have g3 := hat' 3 (by omega)
      have g4 := hat' 4 (by omega)
      have g5 := hat' 5 (by omega)
      exact ⟨nm, v, b, o, _, _, _, _, _, rfl, World.block_lt_of_cell? W _ (g0.trans rfl), g0.trans rfl, hnm, ⟨g1.trans rfl, g2.trans rfl, g3.trans rfl, g4.trans rfl, g5.trans rfl⟩, hv⟩
    have hL : ∃ l : VL, ∃ A c, c3 = .slice A l.len c ∧ l.len ≤ 9223372036854775807 ∧ LAt W W.heap.size l A 0 := by
      rcases DataW.trod_slice Try.underlying25 f3 with ⟨hc, _⟩ | ⟨a, len, cap, elems, rest, n', hn', hc, _, _, hlc, hcm, hel, hat, _⟩
      · simp only [List.cons.injEq, and_true] at hc
        exact ⟨.nil, none, 0, hc, Nat.zero_le _, by unfold LAt; trivial⟩
      · simp only [List.cons.injEq, and_true] at hc
        obtain ⟨l, h1, h2⟩ := elems_of a len n' elems (by omega) hel hat
        exact ⟨l, some a, cap, by rw [hc, h1], by rw [h1]; exact Nat.le_trans hlc hcm, h2⟩
    have hM : ∃ l : VM, ∃ A c, c4 = .slice A l.len c ∧ l.len ≤ 9223372036854775807 ∧ MAt W W.heap.size l A 0 := by
      rcases DataW.trod_slice Try.underlying26 f4 with ⟨hc, _⟩ | ⟨a, len, cap, elems, rest, n', hn', hc, _, _, hlc, hcm, hel, hat, _⟩
      · simp only [List.cons.injEq, and_true] at hc
        exact ⟨.nil, none, 0, hc, Nat.zero_le _, by unfold MAt; trivial⟩
      · simp only [List.cons.injEq, and_true] at hc
        obtain ⟨l, h1, h2⟩ := members_of a len n' elems (by omega) hel hat
        exact ⟨l, some a, cap, by rw [hc, h1], by rw [h1]; exact Nat.le_trans hlc hcm, h2⟩
    obtain ⟨l, A, c, h3, g3, h4⟩ := hL
    obtain ⟨l', A', c', h5, g5, h6⟩ := hM
    simp only [List.cons.injEq, and_true] at e0 e1 e2
    exact ⟨.mk k m t l l', c0, c1, c2, c3, c4, rfl, by unfold VAt; exact ⟨e0, e1, e2, ht, ⟨A, c, h3, g3, h4⟩, A', c', h5, g5, h6⟩⟩
end Go.Proofs.Ytgihnhdknphhpaa
