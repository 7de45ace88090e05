/- Values as plain trees, how they lie in memory, and a value that comes in, opened. -/
import Derived.Test.YtnmidlbhkjcimaaDoorRows
import Derived.WalkKit
import Derived.ProofKit
import Derived.Carry
import Derived.Deep.Strs
import Derived.Deep.Slices
import Derived.Lib.Hide
import Derived.Deep.LoopGhost
import Derived.Deep.WholeRow
import Derived.Deep.RegionHeld3
import Derived.Shelf.Abstract
import Derived.Lib.Strings
import Derived.Laws.BitsAllLaws
import Derived.Laws.BitsLemmas
import Derived.Laws.Entries
import Derived.Lib.RuneBytes
import Derived.Lib.ItoaNum
import Derived.Lib.ParseIntB
namespace Go.Proofs.YtnmidlbhkjcimaaDoor
open Go.ChangeShapes Go.WideShapes Go.ChangeAt Go.RowKit

mutual
/-- A value: its kind, its number, its text, its elements, its members. -/
inductive VT where
  | mk (k n : Int) (s : ByteArray) (l : VL) (m : VM)
inductive VL where
  | nil
  | cons (v : VT) (t : VL)
inductive VM where
  | nil
  | cons (name : ByteArray) (v : VT) (t : VM)
end
def VL.len : VL → Nat
  | .nil => 0
  | .cons _ t => t.len + 1
def VM.len : VM → Nat
  | .nil => 0
  | .cons _ _ t => t.len + 1
def VL.get : VL → Nat → Option VT
  | .nil, _ => none
  | .cons v _, 0 => some v
  | .cons _ t, j + 1 => t.get j
def VM.get : VM → Nat → Option (ByteArray × VT)
  | .nil, _ => none
  | .cons nm v _, 0 => some (nm, v)
  | .cons _ _ t, j + 1 => t.get j
theorem VL.get_lt : ∀ {l : VL} {j : Nat}, j < l.len → ∃ v, l.get j = some v
  | .nil, _, h => by simp [VL.len] at h
  | .cons v _, 0, _ => ⟨v, rfl⟩
  | .cons _ t, j + 1, h => VL.get_lt (l := t) (by simp [VL.len] at h; omega)
theorem VM.get_lt : ∀ {l : VM} {j : Nat}, j < l.len → ∃ v, l.get j = some v
  | .nil, _, h => by simp [VM.len] at h
  | .cons nm v _, 0, _ => ⟨(nm, v), rfl⟩
  | .cons _ _ t, j + 1, h => VM.get_lt (l := t) (by simp [VM.len] at h; omega)
/-- Five cells in a row. -/
def Five (w : World) (b o : Nat) (c0 c1 c2 c3 c4 : Value) : Prop := w.cell? ⟨b, o, none⟩ = some c0 ∧ w.cell? ⟨b, o + 1, none⟩ = some c1 ∧ w.cell? ⟨b, o + 2, none⟩ = some c2 ∧ w.cell? ⟨b, o + 3, none⟩ = some c3 ∧ w.cell? ⟨b, o + 4, none⟩ = some c4
theorem Five.below {w w' : World} {B b o : Nat} {c0 c1 c2 c3 c4 : Value} (h : Five w b o c0 c1 c2 c3 c4) (hb : Below B w w') (hlt : b < B) : Five w' b o c0 c1 c2 c3 c4 :=
  ⟨(hb.cell (p := ⟨b, _, none⟩) hlt).trans h.1, (hb.cell (p := ⟨b, _, none⟩) hlt).trans h.2.1, (hb.cell (p := ⟨b, _, none⟩) hlt).trans h.2.2.1, (hb.cell (p := ⟨b, _, none⟩) hlt).trans h.2.2.2.1, (hb.cell (p := ⟨b, _, none⟩) hlt).trans h.2.2.2.2⟩
mutual
/-- These five values are the fields of the tree; all that they reach lies below block B. -/
def VAt (w : World) (B : Nat) : VT → Value → Value → Value → Value → Value → Prop
  | .mk k n s l m, c0, c1, c2, c3, c4 => c0 = .int .i64 k ∧ c1 = .int .i64 n ∧ c2 = .string s ∧ s.size ≤ 9223372036854775807 ∧ (∃ A c, c3 = .slice A l.len c ∧ l.len ≤ 9223372036854775807 ∧ LAt w B l A 0) ∧ ∃ A c, c4 = .slice A m.len c ∧ m.len ≤ 9223372036854775807 ∧ MAt w B m A 0
def LAt (w : World) (B : Nat) : VL → Option Addr → Nat → Prop
  | .nil, _, _ => True
  | .cons v t, A, j => (∃ b o c0 c1 c2 c3 c4, A = some ⟨b, o, none⟩ ∧ b < B ∧ Five w b (o + j * 5) c0 c1 c2 c3 c4 ∧ VAt w B v c0 c1 c2 c3 c4) ∧ LAt w B t A (j + 1)
def MAt (w : World) (B : Nat) : VM → Option Addr → Nat → Prop
  | .nil, _, _ => True
  | .cons nm v t, A, j => (∃ b o c0 c1 c2 c3 c4, A = some ⟨b, o, none⟩ ∧ b < B ∧ w.cell? ⟨b, o + j * 6, none⟩ = some (.string nm) ∧ nm.size ≤ 9223372036854775807 ∧ Five w b (o + j * 6 + 1) c0 c1 c2 c3 c4 ∧ VAt w B v c0 c1 c2 c3 c4) ∧ MAt w B t A (j + 1)
end
mutual
theorem VAt.below {w w' : World} {B : Nat} (hb : Below B w w') : ∀ (v : VT) (c0 c1 c2 c3 c4 : Value), VAt w B v c0 c1 c2 c3 c4 → VAt w' B v c0 c1 c2 c3 c4
  | .mk k n s l m, c0, c1, c2, c3, c4, h => by
    unfold VAt at h ⊢
    obtain ⟨h0, h1, h2, hs, ⟨A, c, h3, g3, h4⟩, A', c', h5, g5, h6⟩ := h
    exact ⟨h0, h1, h2, hs, ⟨A, c, h3, g3, LAt.below hb l A 0 h4⟩, A', c', h5, g5, MAt.below hb m A' 0 h6⟩
theorem LAt.below {w w' : World} {B : Nat} (hb : Below B w w') : ∀ (l : VL) (A : Option Addr) (j : Nat), LAt w B l A j → LAt w' B l A j
  | .nil, _, _, _ => by unfold LAt; trivial
  | .cons v t, A, j, h => by
    unfold LAt at h ⊢
    obtain ⟨⟨b, o, c0, c1, c2, c3, c4, hA, hlt, hf, hv⟩, ht⟩ := h
    exact ⟨⟨b, o, c0, c1, c2, c3, c4, hA, hlt, hf.below hb hlt, VAt.below hb v _ _ _ _ _ hv⟩, LAt.below hb t A (j + 1) ht⟩
theorem MAt.below {w w' : World} {B : Nat} (hb : Below B w w') : ∀ (l : VM) (A : Option Addr) (j : Nat), MAt w B l A j → MAt w' B l A j
  | .nil, _, _, _ => by unfold MAt; trivial
  | .cons nm v t, A, j, h => by
    unfold MAt at h ⊢
    obtain ⟨⟨b, o, c0, c1, c2, c3, c4, hA, hlt, hn, hz, hf, hv⟩, ht⟩ := h
    exact ⟨⟨b, o, c0, c1, c2, c3, c4, hA, hlt, (hb.cell (p := ⟨b, _, none⟩) hlt).trans hn, hz, hf.below hb hlt, VAt.below hb v _ _ _ _ _ hv⟩, MAt.below hb t A (j + 1) ht⟩
end
theorem LAt.at {w : World} {B : Nat} : ∀ {l : VL} {A : Option Addr} {i j : Nat} {v : VT}, LAt w B l A i → l.get j = some v → ∃ b o c0 c1 c2 c3 c4, A = some ⟨b, o, none⟩ ∧ b < B ∧ Five w b (o + (i + j) * 5) c0 c1 c2 c3 c4 ∧ VAt w B v c0 c1 c2 c3 c4
  | .nil, _, _, _, _, _, h => by simp [VL.get] at h
  | .cons u t, A, i, 0, v, h, hg => by
    unfold LAt at h
    have : u = v := by simpa [VL.get] using hg
    subst this
    exact h.1
  | .cons u t, A, i, j + 1, v, h, hg => by
    unfold LAt at h
    have := LAt.at h.2 (j := j) (v := v) hg
    rwa [show i + 1 + j = i + (j + 1) by omega] at this
theorem MAt.at {w : World} {B : Nat} : ∀ {l : VM} {A : Option Addr} {i j : Nat} {nm : ByteArray} {v : VT}, MAt w B l A i → l.get j = some (nm, v) → ∃ b o c0 c1 c2 c3 c4, A = some ⟨b, o, none⟩ ∧ b < B ∧ w.cell? ⟨b, o + (i + j) * 6, none⟩ = some (.string nm) ∧ nm.size ≤ 9223372036854775807 ∧ Five w b (o + (i + j) * 6 + 1) c0 c1 c2 c3 c4 ∧ VAt w B v c0 c1 c2 c3 c4
  | .nil, _, _, _, _, _, _, h => by simp [VM.get] at h
  | .cons u x t, A, i, 0, nm, v, h, hg => by
    unfold MAt at h
    have : u = nm ∧ x = v := by simpa [VM.get] using hg
    obtain ⟨rfl, rfl⟩ := this
    exact h.1
  | .cons u x t, A, i, j + 1, nm, v, h, hg => by
    unfold MAt at h
    have := MAt.at h.2 (j := j) (nm := nm) (v := v) hg
    rwa [show i + 1 + j = i + (j + 1) by omega] at this
/-- A list of trees out of its elements, each by itself. -/
theorem build_list {w : World} {B : Nat} {A : Option Addr} : ∀ (n j : Nat), (∀ i, j ≤ i → i < j + n → ∃ v b o c0 c1 c2 c3 c4, A = some ⟨b, o, none⟩ ∧ b < B ∧ Five w b (o + i * 5) c0 c1 c2 c3 c4 ∧ VAt w B v c0 c1 c2 c3 c4) → ∃ l : VL, l.len = n ∧ LAt w B l A j
  | 0, _, _ => ⟨.nil, rfl, by unfold LAt; trivial⟩
  | n + 1, j, h => by
    obtain ⟨v, h0⟩ := h j (Nat.le_refl _) (by omega)
    obtain ⟨l, h1, h2⟩ := build_list n (j + 1) (fun i h1 h2 => h i (by omega) (by omega))
    exact ⟨.cons v l, by rw [VL.len, h1], by unfold LAt; exact ⟨h0, h2⟩⟩
theorem build_members {w : World} {B : Nat} {A : Option Addr} : ∀ (n j : Nat), (∀ i, j ≤ i → i < j + n → ∃ nm v b o c0 c1 c2 c3 c4, A = some ⟨b, o, none⟩ ∧ b < B ∧ w.cell? ⟨b, o + i * 6, none⟩ = some (.string nm) ∧ nm.size ≤ 9223372036854775807 ∧ Five w b (o + i * 6 + 1) c0 c1 c2 c3 c4 ∧ VAt w B v c0 c1 c2 c3 c4) → ∃ l : VM, l.len = n ∧ MAt w B l A j
  | 0, _, _ => ⟨.nil, rfl, by unfold MAt; trivial⟩
  | n + 1, j, h => by
    obtain ⟨nm, v, h0⟩ := h j (Nat.le_refl _) (by omega)
    obtain ⟨l, h1, h2⟩ := build_members n (j + 1) (fun i h1 h2 => h i (by omega) (by omega))
    exact ⟨.cons nm v l, by rw [VM.len, h1], by unfold MAt; exact ⟨h0, h2⟩⟩

theorem cellsV : Tryd.prog.cellsOf 25 = 5 := by kernel_rfl
theorem cellsM : Tryd.prog.cellsOf 39 = 6 := by kernel_rfl
theorem cellsI : Tryd.prog.cellsOf 3 = 1 := by kernel_rfl
theorem cellsI64 : Tryd.prog.cellsOf 2 = 1 := by kernel_rfl
theorem cellsS : Tryd.prog.cellsOf 9 = 1 := by kernel_rfl
theorem cellsLV : Tryd.prog.cellsOf 22 = 1 := by kernel_rfl
theorem cellsLM : Tryd.prog.cellsOf 23 = 1 := by kernel_rfl
theorem five_list {cs : List Value} (h : cs.length = 5) : ∃ c0 c1 c2 c3 c4, cs = [c0, c1, c2, c3, c4] := by
  match cs, h with
  | [a, b, c, d, e], _ => exact ⟨a, b, c, d, e, rfl⟩
theorem six_list {cs : List Value} (h : cs.length = 6) : ∃ c0 c1 c2 c3 c4 c5, cs = [c0, c1, c2, c3, c4, c5] := by
  match cs, h with
  | [a, b, c, d, e, f], _ => exact ⟨a, b, c, d, e, f, rfl⟩
theorem add_at {b o i : Nat} : (⟨b, o, none⟩ : Addr).add i = ⟨b, o + i, none⟩ := by unfold Addr.add; split <;> simp_all

set_option maxRecDepth 100000 in
/-- A value that comes in: a tree in memory that was there. -/
theorem open_tree {H : Type} {enc : TypeId × Value → H} {W : World} : ∀ (fuel : Nat) (cs : List Value) (x : DataW H × List MemPlace), DataW.trod enc Tryd.prog W 0 (fun _ => true) true fuel 25 cs = some x →
    ∃ v c0 c1 c2 c3 c4, cs = [c0, c1, c2, c3, c4] ∧ VAt W W.heap.size v c0 c1 c2 c3 c4 := by
  intro fuel
  induction fuel using Nat.strongRecOn with
  | ind fuel ih =>
    intro cs x h
    obtain ⟨xs, n, rfl, _, hl, hxl, hf⟩ := DataW.trod_struct Tryd.underlying25 h
    rw [cellsV] at hl
    obtain ⟨c0, c1, c2, c3, c4, rfl⟩ := five_list hl
    have f0 : DataW.trod enc Tryd.prog W 0 (fun _ => true) true n 3 [c0] = xs[0]? := by have h := hf 0 _ rfl; have h' : DataW.trod enc Tryd.prog W 0 (fun _ => true) true n 3 (([c0, c1, c2, c3, c4].drop 0).take (Tryd.prog.cellsOf 3)) = xs[0]? := h; rw [cellsI] at h'; exact h'
    have f1 : DataW.trod enc Tryd.prog W 0 (fun _ => true) true n 2 [c1] = xs[1]? := by have h := hf 1 _ rfl; have h' : DataW.trod enc Tryd.prog W 0 (fun _ => true) true n 2 (([c0, c1, c2, c3, c4].drop 1).take (Tryd.prog.cellsOf 2)) = xs[1]? := h; rw [cellsI64] at h'; exact h'
    have f2 : DataW.trod enc Tryd.prog W 0 (fun _ => true) true n 9 [c2] = xs[2]? := by have h := hf 2 _ rfl; have h' : DataW.trod enc Tryd.prog W 0 (fun _ => true) true n 9 (([c0, c1, c2, c3, c4].drop 2).take (Tryd.prog.cellsOf 9)) = xs[2]? := h; rw [cellsS] at h'; exact h'
    have f3 : DataW.trod enc Tryd.prog W 0 (fun _ => true) true n 22 [c3] = xs[3]? := by have h := hf 3 _ rfl; have h' : DataW.trod enc Tryd.prog W 0 (fun _ => true) true n 22 (([c0, c1, c2, c3, c4].drop 3).take (Tryd.prog.cellsOf 22)) = xs[3]? := h; rw [cellsLV] at h'; exact h'
    have f4 : DataW.trod enc Tryd.prog W 0 (fun _ => true) true n 23 [c4] = xs[4]? := by have h := hf 4 _ rfl; have h' : DataW.trod enc Tryd.prog W 0 (fun _ => true) true n 23 (([c0, c1, c2, c3, c4].drop 4).take (Tryd.prog.cellsOf 23)) = xs[4]? := h; rw [cellsLM] at h'; exact h'
    obtain ⟨y0, hy0⟩ : ∃ y, xs[0]? = some y := ⟨_, List.getElem?_eq_getElem (by rw [hxl]; decide)⟩
    obtain ⟨y1, hy1⟩ : ∃ y, xs[1]? = some y := ⟨_, List.getElem?_eq_getElem (by rw [hxl]; decide)⟩
    obtain ⟨y2, hy2⟩ : ∃ y, xs[2]? = some y := ⟨_, List.getElem?_eq_getElem (by rw [hxl]; decide)⟩
    obtain ⟨y3, hy3⟩ : ∃ y, xs[3]? = some y := ⟨_, List.getElem?_eq_getElem (by rw [hxl]; decide)⟩
    obtain ⟨y4, hy4⟩ : ∃ y, xs[4]? = some y := ⟨_, List.getElem?_eq_getElem (by rw [hxl]; decide)⟩
    rw [hy0] at f0
    rw [hy1] at f1
    rw [hy2] at f2
    rw [hy3] at f3
    rw [hy4] at f4
    obtain ⟨k, e0, _, _⟩ := DataW.trod_int Tryd.underlying3 f0
    obtain ⟨m, e1, _, _⟩ := DataW.trod_int Tryd.underlying2 f1
    obtain ⟨t, e2, _, ht⟩ := DataW.trod_string Tryd.underlying9 f2
    have elems_of : ∀ (a : Addr) (len n' : Nat) (elems : List (DataW H × List MemPlace)), n' < n + 1 → elems.length = len → (∀ i, i < len → (W.cells? 0 (a.add (i * Tryd.prog.cellsOf 25)) (Tryd.prog.cellsOf 25)).bind (DataW.trod enc Tryd.prog W 0 (fun _ => true) true n' 25) = elems[i]?) → ∃ l : VL, l.len = len ∧ LAt W W.heap.size l (some a) 0 := by
      intro a len n' elems hn' hel hat
      rw [cellsV] at hat
      rcases Nat.eq_zero_or_pos len with hz0 | hz0
      · exact ⟨.nil, hz0.symm, by unfold LAt; trivial⟩
      obtain ⟨b, o, spot⟩ := a
      have hspot : spot = none := by
        have h1 := hat 0 hz0
        obtain ⟨z, hz⟩ : ∃ z, elems[0]? = some z := ⟨_, List.getElem?_eq_getElem (by omega)⟩
        rw [hz] at h1
        obtain ⟨cs', hc', _⟩ := Option.bind_eq_some_iff.1 h1
        obtain ⟨_, hl', hat'⟩ := World.cells?_some hc'
        have h2 := hat' 0 (by omega)
        rw [List.getElem?_eq_getElem (by omega)] at h2
        simpa [Addr.add] using World.cell?_spot h2
      subst hspot
      refine build_list len 0 (fun i _ hi => ?_)
      have h1 := hat i (by omega)
      obtain ⟨z, hz⟩ : ∃ z, elems[i]? = some z := ⟨_, List.getElem?_eq_getElem (by omega)⟩
      rw [hz] at h1
      obtain ⟨cs', hc', ht'⟩ := Option.bind_eq_some_iff.1 h1
      obtain ⟨v, d0, d1, d2, d3, d4, rfl, hv⟩ := ih n' hn' cs' z ht'
      obtain ⟨_, _, hat'⟩ := World.cells?_some hc'
      simp only [add_at] at hat'
      have g0 := hat' 0 (by omega)
      have g1 := hat' 1 (by omega)
      have g2 := hat' 2 (by omega)
      have g3 := hat' 3 (by omega)
      have g4 := hat' 4 (by omega)
      exact ⟨v, b, o, d0, d1, d2, d3, d4, rfl, World.block_lt_of_cell? W _ (g0.trans rfl), ⟨g0.trans rfl, g1.trans rfl, g2.trans rfl, g3.trans rfl, g4.trans rfl⟩, hv⟩
    have members_of : ∀ (a : Addr) (len n' : Nat) (elems : List (DataW H × List MemPlace)), n' < n + 1 → elems.length = len → (∀ i, i < len → (W.cells? 0 (a.add (i * Tryd.prog.cellsOf 39)) (Tryd.prog.cellsOf 39)).bind (DataW.trod enc Tryd.prog W 0 (fun _ => true) true n' 39) = elems[i]?) → ∃ l : VM, l.len = len ∧ MAt W W.heap.size l (some a) 0 := by
      intro a len n' elems hn' hel hat
      rw [cellsM] at hat
      rcases Nat.eq_zero_or_pos len with hz0 | hz0
      · exact ⟨.nil, hz0.symm, by unfold MAt; trivial⟩
      obtain ⟨b, o, spot⟩ := a
      have hspot : spot = none := by
        have h1 := hat 0 hz0
        obtain ⟨z, hz⟩ : ∃ z, elems[0]? = some z := ⟨_, List.getElem?_eq_getElem (by omega)⟩
        rw [hz] at h1
        obtain ⟨cs', hc', _⟩ := Option.bind_eq_some_iff.1 h1
        obtain ⟨_, hl', hat'⟩ := World.cells?_some hc'
        have h2 := hat' 0 (by omega)
        rw [List.getElem?_eq_getElem (by omega)] at h2
        simpa [Addr.add] using World.cell?_spot h2
      subst hspot
      refine build_members len 0 (fun i _ hi => ?_)
      have h1 := hat i (by omega)
      obtain ⟨z, hz⟩ : ∃ z, elems[i]? = some z := ⟨_, List.getElem?_eq_getElem (by omega)⟩
      rw [hz] at h1
      obtain ⟨cs', hc', ht'⟩ := Option.bind_eq_some_iff.1 h1
      obtain ⟨ys, n2, hn2, _, hl2, hyl, hf2⟩ := DataW.trod_struct Tryd.underlying39 ht'
      rw [cellsM] at hl2
      obtain ⟨d, d0, d1, d2, d3, d4, rfl⟩ := six_list hl2
      have p0 : DataW.trod enc Tryd.prog W 0 (fun _ => true) true n2 9 [d] = ys[0]? := by have h' : DataW.trod enc Tryd.prog W 0 (fun _ => true) true n2 9 (([d, d0, d1, d2, d3, d4].drop 0).take (Tryd.prog.cellsOf 9)) = ys[0]? := hf2 0 _ rfl; rw [cellsS] at h'; exact h'
      have p1 : DataW.trod enc Tryd.prog W 0 (fun _ => true) true n2 25 [d0, d1, d2, d3, d4] = ys[1]? := by have h' : DataW.trod enc Tryd.prog W 0 (fun _ => true) true n2 25 (([d, d0, d1, d2, d3, d4].drop 1).take (Tryd.prog.cellsOf 25)) = ys[1]? := hf2 1 _ rfl; rw [cellsV] at h'; exact h'
      obtain ⟨u0, hu0⟩ : ∃ y, ys[0]? = some y := ⟨_, List.getElem?_eq_getElem (by rw [hyl]; decide)⟩
      obtain ⟨u1, hu1⟩ : ∃ y, ys[1]? = some y := ⟨_, List.getElem?_eq_getElem (by rw [hyl]; decide)⟩
      rw [hu0] at p0
      rw [hu1] at p1
      obtain ⟨nm, e, _, hnm⟩ := DataW.trod_string Tryd.underlying9 p0
      obtain ⟨v, q0, q1, q2, q3, q4, hq, hv⟩ := ih n2 (by omega) _ u1 p1
      simp only [List.cons.injEq, and_true] at hq e
      obtain ⟨rfl, rfl, rfl, rfl, rfl⟩ := hq
      subst e
      obtain ⟨_, _, hat'⟩ := World.cells?_some hc'
      simp only [add_at] at hat'
      have g0 := hat' 0 (by omega)
      have g1 := hat' 1 (by omega)
      have g2 := hat' 2 (by omega)
      have g3 := hat' 3 (by omega)
      have g4 := hat' 4 (by omega)
      have g5 := hat' 5 (by omega)
      exact ⟨nm, v, b, o, _, _, _, _, _, rfl, World.block_lt_of_cell? W _ (g0.trans rfl), g0.trans rfl, hnm, ⟨g1.trans rfl, g2.trans rfl, g3.trans rfl, g4.trans rfl, g5.trans rfl⟩, hv⟩
    have hL : ∃ l : VL, ∃ A c, c3 = .slice A l.len c ∧ l.len ≤ 9223372036854775807 ∧ LAt W W.heap.size l A 0 := by
      rcases DataW.trod_slice Tryd.underlying22 f3 with ⟨hc, _⟩ | ⟨a, len, cap, elems, rest, n', hn', hc, _, _, hlc, hcm, hel, hat, _⟩
      · simp only [List.cons.injEq, and_true] at hc
        exact ⟨.nil, none, 0, hc, Nat.zero_le _, by unfold LAt; trivial⟩
      · simp only [List.cons.injEq, and_true] at hc
        obtain ⟨l, h1, h2⟩ := elems_of a len n' elems (by omega) hel hat
        exact ⟨l, some a, cap, by rw [hc, h1], by rw [h1]; exact Nat.le_trans hlc hcm, h2⟩
    have hM : ∃ l : VM, ∃ A c, c4 = .slice A l.len c ∧ l.len ≤ 9223372036854775807 ∧ MAt W W.heap.size l A 0 := by
      rcases DataW.trod_slice Tryd.underlying23 f4 with ⟨hc, _⟩ | ⟨a, len, cap, elems, rest, n', hn', hc, _, _, hlc, hcm, hel, hat, _⟩
      · simp only [List.cons.injEq, and_true] at hc
        exact ⟨.nil, none, 0, hc, Nat.zero_le _, by unfold MAt; trivial⟩
      · simp only [List.cons.injEq, and_true] at hc
        obtain ⟨l, h1, h2⟩ := members_of a len n' elems (by omega) hel hat
        exact ⟨l, some a, cap, by rw [hc, h1], by rw [h1]; exact Nat.le_trans hlc hcm, h2⟩
    obtain ⟨l, A, c, h3, g3, h4⟩ := hL
    obtain ⟨l', A', c', h5, g5, h6⟩ := hM
    simp only [List.cons.injEq, and_true] at e0 e1 e2
    exact ⟨.mk k m t l l', c0, c1, c2, c3, c4, rfl, by unfold VAt; exact ⟨e0, e1, e2, ht, ⟨A, c, h3, g3, h4⟩, A', c', h5, g5, h6⟩⟩
end Go.Proofs.YtnmidlbhkjcimaaDoor
/- The walk of seinekeep.Size: by induction on the tree. -/
namespace Go.Proofs.YtnmidlbhkjcimaaDoor
open Go.RowKit

mutual
def sizeV : VT → Nat
  | .mk _ _ s l m => 1 + s.size + sizeL l + sizeM m
def sizeL : VL → Nat
  | .nil => 0
  | .cons v t => sizeV v + sizeL t
def sizeM : VM → Nat
  | .nil => 0
  | .cons nm v t => nm.size + sizeV v + sizeM t
end
/-- The first j of them. -/
def preL : VL → Nat → Nat
  | .nil, _ => 0
  | .cons _ _, 0 => 0
  | .cons v t, j + 1 => sizeV v + preL t j
def preM : VM → Nat → Nat
  | .nil, _ => 0
  | .cons _ _ _, 0 => 0
  | .cons nm v t, j + 1 => nm.size + sizeV v + preM t j
theorem preL_zero (l : VL) : preL l 0 = 0 := by cases l <;> rfl
theorem preM_zero (l : VM) : preM l 0 = 0 := by cases l <;> rfl
theorem preL_next : ∀ {l : VL} {j : Nat} {v : VT}, l.get j = some v → preL l (j + 1) = preL l j + sizeV v
  | .nil, _, _, h => by simp [VL.get] at h
  | .cons u t, 0, v, h => by
    have : u = v := by simpa [VL.get] using h
    subst this
    show sizeV u + preL t 0 = 0 + sizeV u
    rw [preL_zero]; omega
  | .cons u t, j + 1, v, h => by
    have := preL_next (l := t) (j := j) (v := v) h
    rw [preL, this, preL]; omega
theorem preM_next : ∀ {l : VM} {j : Nat} {nm : ByteArray} {v : VT}, l.get j = some (nm, v) → preM l (j + 1) = preM l j + nm.size + sizeV v
  | .nil, _, _, _, h => by simp [VM.get] at h
  | .cons x u t, 0, nm, v, h => by
    have : x = nm ∧ u = v := by simpa [VM.get] using h
    obtain ⟨rfl, rfl⟩ := this
    show x.size + sizeV u + preM t 0 = 0 + x.size + sizeV u
    rw [preM_zero]; omega
  | .cons x u t, j + 1, nm, v, h => by
    have := preM_next (l := t) (j := j) (nm := nm) (v := v) h
    rw [preM, this, preM]; omega
theorem preL_all : ∀ l : VL, preL l l.len = sizeL l
  | .nil => rfl
  | .cons v t => by rw [VL.len, preL, preL_all t, sizeL]
theorem preM_all : ∀ l : VM, preM l l.len = sizeM l
  | .nil => rfl
  | .cons nm v t => by rw [VM.len, preM, preM_all t, sizeM]
theorem sizeL_get : ∀ {l : VL} {j : Nat} {v : VT}, l.get j = some v → sizeV v ≤ sizeL l
  | .nil, _, _, h => by simp [VL.get] at h
  | .cons u t, 0, v, h => by
    have : u = v := by simpa [VL.get] using h
    subst this
    rw [sizeL]; omega
  | .cons u t, j + 1, v, h => by
    have := sizeL_get (l := t) (j := j) (v := v) h
    rw [sizeL]; omega
theorem sizeM_get : ∀ {l : VM} {j : Nat} {nm : ByteArray} {v : VT}, l.get j = some (nm, v) → nm.size + sizeV v ≤ sizeM l
  | .nil, _, _, _, h => by simp [VM.get] at h
  | .cons x u t, 0, nm, v, h => by
    have : x = nm ∧ u = v := by simpa [VM.get] using h
    obtain ⟨rfl, rfl⟩ := this
    rw [sizeM]; omega
  | .cons x u t, j + 1, nm, v, h => by
    have := sizeM_get (l := t) (j := j) (nm := nm) (v := v) h
    rw [sizeM]; omega
/-- A sum as a number of 64 bits. -/
def W64 (n : Nat) : Int := IntKind.i64.wrap (n : Int)
theorem W64_add (a b : Nat) : IntKind.i64.wrap (W64 a + W64 b) = W64 (a + b) := by
  unfold W64
  simp only [IntKind.wrap_i64]
  omega
theorem W64_plus (a b : Nat) : IntKind.i64.wrap (W64 a + (b : Int)) = W64 (a + b) := by
  unfold W64
  simp only [IntKind.wrap_i64]
  omega
theorem W64_one (b : Nat) : IntKind.i64.wrap (1 + (b : Int)) = W64 (1 + b) := by
  unfold W64
  simp only [IntKind.wrap_i64]
  omega
/-- The box of the argument, and nothing that was there has turned. -/
def KV (w : World) (c2 c3 c4 : Value) (w' : World) : Prop := w'.cell? ⟨w.heap.size, 2, none⟩ = some c2 ∧ w'.cell? ⟨w.heap.size, 3, none⟩ = some c3 ∧ w'.cell? ⟨w.heap.size, 4, none⟩ = some c4 ∧ Below w.heap.size w w' ∧ w.heap.size < w'.heap.size
theorem KV.next {w W W' : World} {c2 c3 c4 : Value} (h : KV w c2 c3 c4 W) (hb : Below W.heap.size W W') : KV w c2 c3 c4 W' := by
  obtain ⟨h2, h3, h4, hB, hs⟩ := h
  exact ⟨(hb.cell (p := ⟨_, _, none⟩) hs).trans h2, (hb.cell (p := ⟨_, _, none⟩) hs).trans h3, (hb.cell (p := ⟨_, _, none⟩) hs).trans h4, hB.trans (hb.mono hB.size), Nat.lt_of_lt_of_le hs hb.size⟩
theorem KV.start (w : World) (c0 c1 c2 c3 c4 : Value) (t : TypeId) : KV w c2 c3 c4 (w.alloc (.cells #[c0, c1, c2, c3, c4] t)) := by
  refine ⟨?_, ?_, ?_, (Below.refl _ _).alloc (Nat.le_refl _) _, by simp⟩ <;> (simp only [World.cell?]; rw [show (w.alloc (.cells #[c0, c1, c2, c3, c4] t)).heap[w.heap.size]? = some (.cells #[c0, c1, c2, c3, c4] t) by show (w.heap.push _)[w.heap.size]? = _; simp]; rfl)
theorem KV.elem {w W W' : World} {c2 c3 c4 : Value} {p : Addr} {x : Value} (h : KV w c2 c3 c4 W ∧ W.cell? p = some x) (hp : p.block < w.heap.size) (hb : Below W.heap.size W W') : KV w c2 c3 c4 W' ∧ W'.cell? p = some x :=
  ⟨h.1.next hb, (hb.cell (Nat.lt_trans hp h.1.2.2.2.2)).trans h.2⟩
/-- And the member at hand. -/
def KM (w : World) (c2 c3 c4 : Value) (b O : Nat) (nm d0 d1 d2 d3 d4 : Value) (w' : World) : Prop := w'.cell? ⟨w.heap.size, 4, none⟩ = some c4 ∧ w'.cell? ⟨b, O, none⟩ = some nm ∧ Five w' b (O + 1) d0 d1 d2 d3 d4 ∧ KV w c2 c3 c4 w'
theorem KM.next {w W W' : World} {c2 c3 c4 : Value} {b O : Nat} {nm d0 d1 d2 d3 d4 : Value} (h : KM w c2 c3 c4 b O nm d0 d1 d2 d3 d4 W) (hbw : b < w.heap.size) (hb : Below W.heap.size W W') : KM w c2 c3 c4 b O nm d0 d1 d2 d3 d4 W' := by
  obtain ⟨h4, hn, hF, hK⟩ := h
  have hl : b < W.heap.size := Nat.lt_trans hbw hK.2.2.2.2
  have hK' := hK.next hb
  exact ⟨hK'.2.2.1, (hb.cell (p := ⟨b, _, none⟩) hl).trans hn, hF.below hb hl, hK'⟩
theorem KM.below {w W : World} {c2 c3 c4 : Value} {b O : Nat} {nm d0 d1 d2 d3 d4 : Value} (h : KM w c2 c3 c4 b O nm d0 d1 d2 d3 d4 W) : Below w.heap.size w W := h.2.2.2.2.2.2.1
theorem KM.written {w W : World} {c2 c3 c4 : Value} {b O : Nat} {nm d0 d1 d2 d3 d4 : Value} (h : KM w c2 c3 c4 b O nm d0 d1 d2 d3 d4 W) : W.cell? ⟨w.heap.size, 4, none⟩ = some c4 ∧ W.cell? ⟨b, O, none⟩ = some nm ∧ W.cell? ⟨b, O + 1, none⟩ = some d0 ∧ W.cell? ⟨b, O + 1 + 1, none⟩ = some d1 ∧ W.cell? ⟨b, O + 1 + 2, none⟩ = some d2 ∧ W.cell? ⟨b, O + 1 + 3, none⟩ = some d3 ∧ W.cell? ⟨b, O + 1 + 4, none⟩ = some d4 ∧ KM w c2 c3 c4 b O nm d0 d1 d2 d3 d4 W :=
  ⟨h.1, h.2.1, h.2.2.1.1, h.2.2.1.2.1, h.2.2.1.2.2.1, h.2.2.1.2.2.2.1, h.2.2.1.2.2.2.2, h⟩
theorem vret {a b : Nat} (h : b = a) : Ending.returned (.int .i64 (W64 a)) = .returned (.int .i64 (W64 b)) := by rw [h]
theorem W64_two (a b c : Nat) : IntKind.i64.wrap (IntKind.i64.wrap (W64 a + (b : Int)) + W64 c) = W64 (a + b + c) := by
  rw [W64_plus, W64_add]

set_option maxRecDepth 100000 in
set_option maxHeartbeats 4000000 in
theorem vsize_any : ∀ (N : Nat) (v : VT), sizeV v ≤ N → ∀ (c0 c1 c2 c3 c4 : Value) (w : World) (B : Nat), B ≤ w.heap.size → VAt w B v c0 c1 c2 c3 c4 →
    Calls Tryd.prog 4 #[.agg #[c0, c1, c2, c3, c4]] w fun e w' => e = .returned (.int .i64 (W64 (sizeV v))) ∧ Below w.heap.size w w' := by
  intro N
  induction N with
  | zero => intro v h; cases v; rw [sizeV] at h; omega
  | succ N ih =>
    intro v hN c0 c1 c2 c3 c4 w B hB hv
    obtain ⟨k, n, s, l, m⟩ := v
    have hsz : sizeV (.mk k n s l m) = 1 + s.size + sizeL l + sizeM m := by rw [sizeV]
    rw [hsz] at hN ⊢
    unfold VAt at hv
    obtain ⟨rfl, rfl, rfl, hs, ⟨A, c, rfl, hl, hL⟩, A', c', rfl, hm, hM⟩ := hv
    have HL := Lib.hid hL
    have HM := Lib.hid hM
    have IH := Lib.hid ih
    have hw1 := W64_one s.size
    have HB0 := Lib.hid hB
    clear hL hM ih hsz hB
    go_enter Tryd.func4, Tryd.ntmps4
    go_wp2_with fail
    go_loopg [3, 4] l.len (fun g out i wx => ∃ q : Nat, q + g = l.len ∧ i = .int .i64 q ∧ out = .int .i64 (W64 (1 + s.size + preL l q)) ∧ KV w (.string s) (.slice A l.len c) (.slice A' m.len c') wx)
    case atStart => exact ⟨0, by omega, rfl, by rw [preL_zero, Nat.add_zero], KV.start _ _ _ _ _ _ _⟩
    case round =>
      obtain ⟨q, hq, rfl, rfl, hK⟩ := hrel
      have K := Lib.hid hK
      obtain ⟨h2, h3, h4, hb, hlt0⟩ := hK
      have HBB := Lib.hid hb
      clear hb hw1
      cases gk with
      | zero =>
        obtain rfl : q = l.len := by omega
        rw [preL_all]
        obtain ⟨T, hT⟩ : ∃ T : Nat, 1 + s.size + sizeL l = T := ⟨_, rfl⟩
        rw [hT] at hN ⊢
        have hT1 : 1 ≤ T := by omega
        have HT := Lib.hid hT
        clear hT hlt0
        go_wp2_with fail
        clear h2 h3 h4
        go_loopg [3, 5] m.len (fun g out i wx => ∃ q : Nat, q + g = m.len ∧ i = .int .i64 q ∧ out = .int .i64 (W64 (T + preM m q)) ∧ KV w (.string s) (.slice A l.len c) (.slice A' m.len c') wx)
        case atStart => exact ⟨0, by omega, rfl, by rw [preM_zero, Nat.add_zero], K.out⟩
        case round =>
          obtain ⟨q, hq, rfl, rfl, hK⟩ := hrel
          have K' := Lib.hid hK
          obtain ⟨h2, h3, h4, hb, hlt0⟩ := hK
          have HBC := Lib.hid hb
          clear hb h2 h3
          cases gk with
          | zero =>
            obtain rfl : q = m.len := by omega
            rw [preM_all]
            go_wp2_with fail
            go_ret
            exact ⟨vret (by rw [HT.out]), HBC.out⟩
          | succ g =>
            have hqn : q < m.len := by omega
            have hqn' : (q : Int) < (m.len : Int) := by omega
            obtain ⟨⟨nm, v⟩, hv⟩ := VM.get_lt hqn
            have hvN := sizeM_get hv
            obtain ⟨b, o, d0, d1, d2, d3, d4, rfl, hblt, hnm, hns, hF, hV⟩ := MAt.at HM.out hv
            rw [Nat.zero_add] at hF hnm
            have hbw : b < w.heap.size := Nat.lt_of_lt_of_le hblt HB0.out
            have hE : KM w (.string s) (.slice A l.len c) (.slice (some ⟨b, o, none⟩) m.len c') b (o + q * 6) (.string nm) d0 d1 d2 d3 d4 wr := ⟨h4, (HBC.out.cell (p := ⟨b, _, none⟩) hbw).trans hnm, hF.below HBC.out hbw, K'.out⟩
            have hE2 := hE
            obtain ⟨f4, f5, ⟨f6, f7, f8, f9, f10⟩, _⟩ := hE2
            have HBW := Lib.hid hbw
            have C := fun (wx : World) (hx : Below w.heap.size w wx) => Lib.hid (IH.out v (by omega) d0 d1 d2 d3 d4 wx B (Nat.le_trans HB0.out hx.size) (VAt.below (hx.mono HB0.out) _ _ _ _ _ _ hV))
            have hs2 := W64_two (T + preM m q) nm.size (sizeV v)
            have hs1 := W64_plus (T + preM m q) nm.size
            have hs0 := W64_add (T + preM m q + nm.size) (sizeV v)
            have hnx := Lib.hid (preM_next hv)
            clear hV hvN hv hbw hF hnm hblt h4
            go_wp2_with fail
            go_region_held3 (fun w' => w'.cell? ⟨w.heap.size, 4, none⟩ = some (.slice (some ⟨b, o, none⟩) m.len c') ∧ w'.cell? ⟨b, o + q * 6, none⟩ = some (.string nm) ∧ w'.cell? ⟨b, o + q * 6 + 1, none⟩ = some d0 ∧ w'.cell? ⟨b, o + q * 6 + 1 + 1, none⟩ = some d1 ∧ w'.cell? ⟨b, o + q * 6 + 1 + 2, none⟩ = some d2 ∧ w'.cell? ⟨b, o + q * 6 + 1 + 3, none⟩ = some d3 ∧ w'.cell? ⟨b, o + q * 6 + 1 + 4, none⟩ = some d4 ∧ KM w (.string s) (.slice A l.len c) (.slice (some ⟨b, o, none⟩) m.len c') b (o + q * 6) (.string nm) d0 d1 d2 d3 d4 w')
              (first
                | exact KM.written (hE.next HBW.out (Below.drew (Below.refl _ _)))
                | exact KM.written ((hE.next HBW.out (Below.drew (Below.refl _ _))).next HBW.out (by assumption))
                | exact KM.written (hE.next HBW.out (by assumption))
                | exact KM.written (KM.next (by assumption) HBW.out (by assumption))
                | go_keep)
              ((first | (go_at_call 4; refine (C _ (by first | exact Below.drew (KM.below hE) | exact KM.below (by assumption))).out.mono ?_; rintro e w' ⟨rfl, hb⟩)))
            all_goals
              have HKM : KM w (.string s) (.slice A l.len c) (.slice (some ⟨b, o, none⟩) m.len c') b (o + q * 6) (.string nm) d0 d1 d2 d3 d4 w' := And.right (And.right (And.right (And.right (And.right (And.right (And.right (by assumption)))))))
              have HKB := Lib.hid HKM.2.2.2
              clear HKM hE C hs2 hs1 hs0 f4 f5 f6 f7 f8 f9 f10
              go_wp2_with fail
              go_roundg g
              case measure => omega
              case rel => exact ⟨q + 1, by omega, by go_num, by rw [hnx.out, ← Nat.add_assoc, ← Nat.add_assoc], HKB.out⟩
      | succ g =>
        have hqn : q < l.len := by omega
        have hqn' : (q : Int) < (l.len : Int) := by omega
        obtain ⟨v, hv⟩ := VL.get_lt hqn
        have hvN := sizeL_get hv
        obtain ⟨b, o, d0, d1, d2, d3, d4, rfl, hblt, hF, hV⟩ := LAt.at (LAt.below (HBB.out.mono HB0.out) _ _ _ HL.out) hv
        rw [Nat.zero_add] at hF
        obtain ⟨g0, g1, g2, g3, g4⟩ := hF
        have C := Lib.hid (IH.out v (by omega) d0 d1 d2 d3 d4 wr B (Nat.le_trans HB0.out HBB.out.size) hV)
        have hsum := W64_add (1 + s.size + preL l q) (sizeV v)
        have hnx := Lib.hid (preL_next hv)
        clear hV hvN hv
        go_wp2_with fail
        refine C.out.mono ?_
        rintro e w2 ⟨rfl, hb2⟩
        have K2 := Lib.hid (K.out.next hb2)
        clear hb2 h2 h3 h4 g0 g1 g2 g3 g4
        go_wp2_with fail
        go_roundg g
        case measure => omega
        case rel => exact ⟨q + 1, by omega, by go_num, by rw [hnx.out, ← Nat.add_assoc], K2.out⟩
end Go.Proofs.YtnmidlbhkjcimaaDoor
/- Plain facts on bytes, code points, names and UTF-16 units, of no program: what the walks of the package letters and of the document's own answer come to. -/
namespace Go.Proofs.YtnmidlbhkjcimaaDoor

def letB (c : Int) : Bool := decide ((97 ≤ c ∧ c ≤ 122) ∨ (65 ≤ c ∧ c ≤ 90) ∨ c = 95)
def digB (c : Int) : Bool := decide (48 ≤ c ∧ c ≤ 57)
def halfB (c : Int) : Bool := decide (55296 ≤ c ∧ c ≤ 57343)
def pairB (a b : Int) : Bool := decide (55296 ≤ a ∧ a < 56320 ∧ 56320 ≤ b ∧ b ≤ 57343)

/-- Are all of them letters, signs of the low line or digits? -/
def tailB (l : List UInt8) : Bool := l.all fun b => letB (b.toNat : Int) || digB (b.toNat : Int)
/-- Is it a name? -/
def nameB : List UInt8 → Bool
  | [] => false
  | b :: t => letB (b.toNat : Int) && tailB t

theorem tailB_append (l m : List UInt8) : tailB (l ++ m) = (tailB l && tailB m) := by simp [tailB]
theorem nameB_append (l m : List UInt8) (h : l ≠ []) : nameB (l ++ m) = (nameB l && tailB m) := by
  cases l with
  | nil => exact absurd rfl h
  | cons b t => simp [nameB, tailB_append, Bool.and_assoc]
theorem tailB_of_nameB {l : List UInt8} (h : nameB l = true) : tailB l = true := by
  cases l with
  | nil => cases h
  | cons b t =>
    simp only [nameB, Bool.and_eq_true] at h
    have h2 := h.2
    simp only [tailB] at h2
    simp [tailB, h.1, h2]
theorem take_snoc (s : ByteArray) (k : Nat) (h : k < s.size) : s.data.toList.take (k + 1) = s.data.toList.take k ++ [s[k]] := by
  rw [List.take_succ_eq_append_getElem (by simpa using h)]; rfl
/-- One byte more of a text of which all so far is a name's. -/
def nameTo (s : ByteArray) (k : Nat) : Prop := k = 0 ∨ nameB (s.data.toList.take k) = true
theorem take_ne (s : ByteArray) (k : Nat) (h0 : k ≠ 0) (h : k < s.size) : s.data.toList.take k ≠ [] := by
  have : s.data.toList.length = s.size := Array.length_toList
  intro e
  have := congrArg List.length e
  simp only [List.length_take, List.length_nil] at this
  omega
theorem nameTo_letter {s : ByteArray} {k : Nat} (h : k < s.size) (ht : nameTo s k) (hl : letB (s[k].toNat : Int) = true) : nameTo s (k + 1) := by
  refine .inr ?_
  rw [take_snoc s k h]
  rcases ht with h0 | ht
  · subst h0; simp [nameB, tailB, hl]
  · rw [nameB_append _ _ (by intro e; rw [e] at ht; cases ht), ht]; simp [tailB, hl]
theorem nameTo_digit {s : ByteArray} {k : Nat} (h : k < s.size) (h0 : k ≠ 0) (ht : nameTo s k) (hl : digB (s[k].toNat : Int) = true) : nameTo s (k + 1) := by
  refine .inr ?_
  rw [take_snoc s k h]
  rcases ht with h0' | ht
  · exact absurd h0' h0
  · rw [nameB_append _ _ (by intro e; rw [e] at ht; cases ht), ht]; simp [tailB, hl]
theorem nameB_split (s : ByteArray) (k : Nat) (h : k < s.size) : s.data.toList = s.data.toList.take k ++ s[k] :: s.data.toList.drop (k + 1) := by
  have e := (List.take_append_drop (k + 1) s.data.toList).symm
  rw [take_snoc s k h, List.append_assoc] at e
  exact e
theorem name_stop0 {s : ByteArray} (h : 0 < s.size) (hl : letB (s[0].toNat : Int) = false) : nameB s.data.toList = false := by
  rw [nameB_split s 0 h]; simp [nameB, hl]
theorem name_stop {s : ByteArray} {k : Nat} (h : k < s.size) (h0 : k ≠ 0) (hl : letB (s[k].toNat : Int) = false) (hd : digB (s[k].toNat : Int) = false) : nameB s.data.toList = false := by
  rw [nameB_split s k h, nameB_append _ _ (take_ne s k h0 h)]
  simp [tailB, hl, hd]
theorem name_done {s : ByteArray} (ht : nameTo s s.size) : nameB s.data.toList = !s.toList.isEmpty := by
  have hl : s.data.toList.length = s.size := Array.length_toList
  have e : s.toList = s.data.toList := Lib.toList_data s
  rw [e]
  rcases ht with h0 | ht
  · have : s.data.toList = [] := List.eq_nil_of_length_eq_zero (by omega)
    rw [this]; rfl
  · rw [← hl, List.take_length] at ht
    rw [ht]
    cases h : s.data.toList with
    | nil => rw [h] at ht; cases ht
    | cons _ _ => rfl
end Go.Proofs.YtnmidlbhkjcimaaDoor
/- Plain facts on UTF-8, of no program: which code point is encoded at the head of a list of bytes, and the arithmetic of the shapes' bits. -/
namespace Go.Proofs.YtnmidlbhkjcimaaDoor

/-- Byte k of a list, as a number; 0 behind its end. -/
def byt (l : List UInt8) (k : Nat) : Int := ((l.getD k 0).toNat : Int)
def contB (b : Int) : Bool := decide (128 ≤ b ∧ b ≤ 191)
/-- The first byte's bits that are fixed, the bits by which they are told, the least code point, and how many first bytes there are, of the shape of k + 1 bytes. -/
def lead : Nat → Int | 0 => 0 | 1 => 192 | 2 => 224 | _ => 240
def mask : Nat → Int | 0 => 128 | 1 => 224 | 2 => 240 | _ => 248
def least : Nat → Int | 0 => 0 | 1 => 128 | 2 => 2048 | _ => 65536
def wide : Nat → Int | 0 => 128 | 1 => 32 | 2 => 16 | _ => 8
/-- The number that the first byte's rest and the bytes 1 to k - 1 are together. -/
def acc (l : List UInt8) (c : Int) : Nat → Int
  | 0 => c
  | 1 => c
  | k + 2 => acc l c (k + 1) * 64 + (byt l (k + 1) - 128)
/-- Are the bytes 1 to k - 1 ones that go on? -/
def contTo (l : List UInt8) : Nat → Bool
  | 0 => true
  | 1 => true
  | k + 2 => contTo l (k + 1) && contB (byt l (k + 1))
def leads (k : Nat) (a : Int) : Prop := lead k ≤ a ∧ a < lead k + wide k
instance (k : Nat) (a : Int) : Decidable (leads k a) := by unfold leads; infer_instance
def fair (k : Nat) (c : Int) : Prop := least k ≤ c ∧ c ≤ 1114111 ∧ halfB c = false
instance (k : Nat) (c : Int) : Decidable (fair k c) := by unfold fair; infer_instance
/-- The code point of k + 1 bytes at the head, if one is there. -/
def decK (k : Nat) (l : List UInt8) : Option (Int × Int) :=
  if k < l.length ∧ leads k (byt l 0) ∧ contTo l (k + 1) = true ∧ fair k (acc l (byt l 0 - lead k) (k + 1)) then some (acc l (byt l 0 - lead k) (k + 1), (k : Int) + 1) else none
/-- The code point at the head, and its number of bytes; 0 and 0 if there is none. -/
def dec (l : List UInt8) : Int × Int :=
  match decK 0 l with
  | some p => p
  | none => match decK 1 l with
    | some p => p
    | none => match decK 2 l with
      | some p => p
      | none => match decK 3 l with
        | some p => p
        | none => (0, 0)
/-- The shapes of fewer bytes than k + 1 have no code point. -/
def noneTo (l : List UInt8) (k : Nat) : Prop := ∀ j, j < k → decK j l = none
theorem noneTo_succ {l : List UInt8} {k : Nat} (h : noneTo l k) (hk : decK k l = none) : noneTo l (k + 1) := fun j hj => by
  rcases Nat.lt_or_ge j k with h' | h'
  · exact h j h'
  · obtain rfl : j = k := by omega
    exact hk
theorem dec_none {l : List UInt8} (h : noneTo l 4) : dec l = (0, 0) := by
  simp [dec, h 0 (by omega), h 1 (by omega), h 2 (by omega), h 3 (by omega)]
theorem dec_some {l : List UInt8} {k : Nat} {p : Int × Int} (hk : k < 4) (h : noneTo l k) (hp : decK k l = some p) : dec l = p := by
  match k, hk with
  | 0, _ => simp [dec, hp]
  | 1, _ => simp [dec, h 0 (by omega), hp]
  | 2, _ => simp [dec, h 0 (by omega), h 1 (by omega), hp]
  | 3, _ => simp [dec, h 0 (by omega), h 1 (by omega), h 2 (by omega), hp]

theorem byt_lt (l : List UInt8) (k : Nat) : 0 ≤ byt l k ∧ byt l k < 256 := by
  have := (l.getD k 0).toNat_lt
  unfold byt; omega
theorem byt_drop (s : ByteArray) (i k : Nat) (h : i + k < s.size) : (s[i + k].toNat : Int) = byt (s.data.toList.drop i) k := by
  unfold byt
  have hl : s.data.toList.length = s.size := Array.length_toList
  rw [List.getD_eq_getElem?_getD, List.getElem?_drop, List.getElem?_eq_getElem (by omega)]
  rfl
theorem acc_bd (l : List UInt8) (c : Int) (h0 : 0 ≤ c) (h1 : c < 128) : ∀ k, contTo l k = true → 0 ≤ acc l c k ∧ acc l c k < 128 * 64 ^ (k - 1) := by
  intro k
  induction k with
  | zero => intro _; exact ⟨h0, by simpa [acc] using h1⟩
  | succ k ih =>
    cases k with
    | zero => intro _; exact ⟨h0, by simpa [acc] using h1⟩
    | succ k =>
      intro h
      simp only [contTo, Bool.and_eq_true] at h
      obtain ⟨a, b⟩ := ih h.1
      have hc := h.2
      simp only [contB, decide_eq_true_eq] at hc
      simp only [acc]
      refine ⟨by omega, ?_⟩
      rw [show k + 1 + 1 - 1 = (k + 1 - 1) + 1 from by omega, Int.pow_succ]
      omega

theorem decK_leads {l : List UInt8} {k : Nat} (h : ¬ leads k (byt l 0)) : decK k l = none := by
  unfold decK; rw [if_neg (fun x => h x.2.1)]
theorem decK_short {l : List UInt8} {k : Nat} (h : ¬ k < l.length) : decK k l = none := by
  unfold decK; rw [if_neg (fun x => h x.1)]
theorem decK_fair {l : List UInt8} {k : Nat} (h : ¬ fair k (acc l (byt l 0 - lead k) (k + 1))) : decK k l = none := by
  unfold decK; rw [if_neg (fun x => h x.2.2.2)]
theorem contTo_mono {l : List UInt8} : ∀ (k j : Nat), j ≤ k → contTo l k = true → contTo l j = true := by
  intro k
  induction k with
  | zero => intro j hj h; obtain rfl : j = 0 := by omega
            exact h
  | succ k ih =>
    intro j hj h
    rcases Nat.lt_or_ge j (k + 1) with h' | h'
    · refine ih j (by omega) ?_
      cases k with
      | zero => rfl
      | succ k => simp only [contTo, Bool.and_eq_true] at h; exact h.1
    · obtain rfl : j = k + 1 := by omega
      exact h
theorem decK_cont {l : List UInt8} {k j : Nat} (h0 : 1 ≤ j) (hj : j ≤ k) (h : ¬ contB (byt l j) = true) : decK k l = none := by
  unfold decK; rw [if_neg (fun x => h ?_)]
  have := contTo_mono (k + 1) (j + 1) (by omega) x.2.2.1
  match j, h0 with
  | j + 1, _ => simp only [contTo, Bool.and_eq_true] at this; exact this.2
theorem decK_yes {l : List UInt8} {k : Nat} (h1 : k < l.length) (h2 : leads k (byt l 0)) (h3 : contTo l (k + 1) = true) (h4 : fair k (acc l (byt l 0 - lead k) (k + 1))) :
    decK k l = some (acc l (byt l 0 - lead k) (k + 1), (k : Int) + 1) := by unfold decK; rw [if_pos ⟨h1, h2, h3, h4⟩]
theorem leads_bd {k : Nat} {a : Int} (h : leads k a) : 0 ≤ a - lead k ∧ a - lead k < 128 := by
  unfold leads at h
  match k, h with
  | 0, h => simp only [lead, wide] at *; omega
  | 1, h => simp only [lead, wide] at *; omega
  | 2, h => simp only [lead, wide] at *; omega
  | k + 3, h => simp only [lead, wide] at *; omega
theorem contTo_succ {l : List UInt8} {j : Nat} (h0 : 1 ≤ j) (h : contTo l j = true) (hc : contB (byt l j) = true) : contTo l (j + 1) = true := by
  match j, h0 with
  | j + 1, _ => simp [contTo, h, hc]
theorem acc_succ {l : List UInt8} {c : Int} {j : Nat} (h0 : 1 ≤ j) : acc l c (j + 1) = acc l c j * 64 + (byt l j - 128) := by
  match j, h0 with
  | j + 1, _ => rfl
theorem acc_small {l : List UInt8} {c : Int} {j : Nat} (h0 : 0 ≤ c) (h1 : c < 128) (hj : j ≤ 4) (h : contTo l j = true) : 0 ≤ acc l c j ∧ acc l c j < 33554433 := by
  have hx : ∀ (k : Nat), k ≤ 3 → (128 : Int) * 64 ^ k ≤ 33554432 := by
    intro k hk
    match k, hk with
    | 0, _ => decide
    | 1, _ => decide
    | 2, _ => decide
    | 3, _ => decide
  have hb : 0 ≤ acc l c j ∧ acc l c j < 128 * 64 ^ (j - 1) := acc_bd l c h0 h1 j h
  have := hx (j - 1) (by omega)
  omega

/- THE BITS -/
theorem and_mask_all : ∀ k : Fin 4, ∀ a : Fin 256, (bits .and .i64 ((a.val : Nat) : Int) (mask k.val) = lead k.val ↔ leads k.val ((a.val : Nat) : Int)) ∧ (leads k.val ((a.val : Nat) : Int) → bits .andNot .i64 ((a.val : Nat) : Int) (mask k.val) = ((a.val : Nat) : Int) - lead k.val) := by decide +kernel
theorem and_tail_all : ∀ a : Fin 256, (bits .and .i64 ((a.val : Nat) : Int) 192 = 128 ↔ contB ((a.val : Nat) : Int) = true) ∧ (contB ((a.val : Nat) : Int) = true → bits .and .i64 ((a.val : Nat) : Int) 63 = ((a.val : Nat) : Int) - 128) := by decide +kernel
theorem and_mask {k : Nat} (hk : k < 4) {a : Int} (h0 : 0 ≤ a) (h1 : a < 256) : (bits .and .i64 a (mask k) = lead k ↔ leads k a) ∧ (leads k a → bits .andNot .i64 a (mask k) = a - lead k) := by
  obtain ⟨n, rfl⟩ := Int.eq_ofNat_of_zero_le h0
  exact and_mask_all ⟨k, hk⟩ ⟨n, by omega⟩
theorem and_tail {a : Int} (h0 : 0 ≤ a) (h1 : a < 256) : (bits .and .i64 a 192 = 128 ↔ contB a = true) ∧ (contB a = true → bits .and .i64 a 63 = a - 128) := by
  obtain ⟨n, rfl⟩ := Int.eq_ofNat_of_zero_le h0
  exact and_tail_all ⟨n, by omega⟩
theorem ofInt_i64 (a : Nat) (ha : a < 9223372036854775808) : (BitVec.ofInt 64 (a : Int)).toNat = a := by
  rw [BitVec.ofInt_natCast, BitVec.toNat_ofNat]; exact Nat.mod_eq_of_lt (by omega)
theorem or_six {c d : Int} (h0 : 0 ≤ c) (h1 : c < 134217728) (h2 : 0 ≤ d) (h3 : d < 64) : bits .or .i64 (c * 64) d = c * 64 + d := by
  obtain ⟨a, rfl⟩ := Int.eq_ofNat_of_zero_le h0
  obtain ⟨b, rfl⟩ := Int.eq_ofNat_of_zero_le h2
  have e : ((a : Int) * 64) = ((a * 64 : Nat) : Int) := by omega
  rw [e]
  show IntKind.i64.wrap ((BitVec.ofInt 64 ((a * 64 : Nat) : Int) ||| BitVec.ofInt 64 (b : Int)).toNat : Int) = _
  have h := Nat.shiftLeft_add_eq_or_of_lt (b := b) (i := 6) (by omega) a
  rw [BitVec.toNat_or, ofInt_i64 _ (by omega), ofInt_i64 b (by omega), show a * 64 = a <<< 6 from by rw [Nat.shiftLeft_eq], ← h, IntKind.wrap_i64, Nat.shiftLeft_eq]
  omega
end Go.Proofs.YtnmidlbhkjcimaaDoor
/- Plain facts on texts, of no program: the list of a text's code points, and what is asked of each of them. -/
namespace Go.Proofs.YtnmidlbhkjcimaaDoor

theorem decK_bd {k : Nat} {l : List UInt8} {p : Int × Int} (hk : k < 4) (h : decK k l = some p) : p.2 = (k : Int) + 1 ∧ k + 1 ≤ l.length ∧ 0 ≤ p.1 ∧ fair k p.1 := by
  unfold decK at h
  split at h
  · rename_i hc
    obtain ⟨h1, h2, h3, h4⟩ := hc
    injection h with h
    subst h
    have hls := leads_bd h2
    exact ⟨rfl, by omega, (acc_small hls.1 hls.2 (by omega) h3).1, h4⟩
  · cases h
/-- What stands at the head: no code point, or the one of some shape. -/
theorem dec_cases (l : List UInt8) : (noneTo l 4 ∧ dec l = (0, 0)) ∨ ∃ k, k < 4 ∧ noneTo l k ∧ decK k l = some (dec l) := by
  cases h0 : decK 0 l with
  | some p => exact .inr ⟨0, by omega, fun j hj => by omega, by rw [dec_some (k := 0) (by omega) (fun j hj => by omega) h0, h0]⟩
  | none =>
    have n1 : noneTo l 1 := fun j hj => by obtain rfl : j = 0 := by omega
                                           exact h0
    cases h1 : decK 1 l with
    | some p => exact .inr ⟨1, by omega, n1, by rw [dec_some (k := 1) (by omega) n1 h1, h1]⟩
    | none =>
      have n2 := noneTo_succ n1 h1
      cases h2 : decK 2 l with
      | some p => exact .inr ⟨2, by omega, n2, by rw [dec_some (k := 2) (by omega) n2 h2, h2]⟩
      | none =>
        have n3 := noneTo_succ n2 h2
        cases h3 : decK 3 l with
        | some p => exact .inr ⟨3, by omega, n3, by rw [dec_some (k := 3) (by omega) n3 h3, h3]⟩
        | none => exact .inl ⟨noneTo_succ n3 h3, dec_none (noneTo_succ n3 h3)⟩
theorem dec_bd (l : List UInt8) : 0 ≤ (dec l).2 ∧ (dec l).2 ≤ 4 ∧ (dec l).2 ≤ l.length ∧ 0 ≤ (dec l).1 ∧ (dec l).1 ≤ 1114111 ∧ halfB (dec l).1 = false := by
  rcases dec_cases l with ⟨_, h⟩ | ⟨k, hk, _, h⟩
  · rw [h]; simp [halfB]
  · obtain ⟨h1, h2, h3, h4⟩ := decK_bd hk h
    unfold fair at h4
    exact ⟨by omega, by omega, by omega, h3, h4.2.1, h4.2.2⟩

/-- The code points of a text; none, if something else stands in it. (n: at least as many as there are bytes.) -/
def codesF : Nat → List UInt8 → Option (List Int)
  | _, [] => some []
  | 0, _ :: _ => none
  | n + 1, b :: t => if (dec (b :: t)).2 = 0 then none else (codesF n ((b :: t).drop (dec (b :: t)).2.toNat)).map ((dec (b :: t)).1 :: ·)
def codes (l : List UInt8) : Option (List Int) := codesF l.length l
theorem codesF_enough : ∀ (n m : Nat) (l : List UInt8), l.length ≤ n → l.length ≤ m → codesF n l = codesF m l := by
  intro n
  induction n with
  | zero =>
    intro m l h _
    have : l = [] := List.eq_nil_of_length_eq_zero (by omega)
    subst this
    cases m <;> rfl
  | succ n ih =>
    intro m l hn hm
    cases l with
    | nil => cases m <;> rfl
    | cons b t =>
      cases m with
      | zero => simp at hm
      | succ m =>
        have hb := dec_bd (b :: t)
        simp only [codesF]
        split
        · rfl
        · rename_i h0
          rw [ih m _ (by simp only [List.length_drop, List.length_cons] at *; omega) (by simp only [List.length_drop, List.length_cons] at *; omega)]
theorem codes_nil : codes [] = some [] := rfl
theorem codes_bad {l : List UInt8} (h : l ≠ []) (h0 : (dec l).2 = 0) : codes l = none := by
  cases l with
  | nil => exact absurd rfl h
  | cons b t => simp only [codes, List.length_cons, codesF, if_pos h0]
theorem codes_step {l : List UInt8} (h : l ≠ []) (h0 : (dec l).2 ≠ 0) : codes l = (codes (l.drop (dec l).2.toNat)).map ((dec l).1 :: ·) := by
  cases l with
  | nil => exact absurd rfl h
  | cons b t =>
    have hb := dec_bd (b :: t)
    show codesF (t.length + 1) (b :: t) = _
    simp only [codesF, if_neg h0]
    rw [codesF_enough t.length ((b :: t).drop (dec (b :: t)).2.toNat).length _ (by simp only [List.length_drop, List.length_cons] at *; omega) (Nat.le_refl _)]
    rfl
/-- Are they all code points, and does each one fit? -/
def eachP (p : Int → Bool) (l : List UInt8) : Bool :=
  match codes l with
  | some cs => cs.all p
  | none => false
theorem eachP_nil (p : Int → Bool) : eachP p [] = true := rfl
theorem eachP_bad {p : Int → Bool} {l : List UInt8} (h : l ≠ []) (h0 : (dec l).2 = 0) : eachP p l = false := by simp [eachP, codes_bad h h0]
theorem eachP_step {p : Int → Bool} {l : List UInt8} (h : l ≠ []) (h0 : (dec l).2 ≠ 0) : eachP p l = (p (dec l).1 && eachP p (l.drop (dec l).2.toNat)) := by
  unfold eachP
  rw [codes_step h h0]
  cases codes (l.drop (dec l).2.toNat) with
  | none => simp
  | some cs => simp
def srcB (c : Int) : Bool := decide (c = 9 ∨ c = 10 ∨ c = 13 ∨ (32 ≤ c ∧ c < 65536))
def goodB (l : List UInt8) : Bool := eachP (fun _ => true) l
def sourceB (l : List UInt8) : Bool := eachP srcB l
theorem goodB_iff (l : List UInt8) : goodB l = (codes l).isSome := by
  unfold goodB eachP
  cases codes l <;> simp
end Go.Proofs.YtnmidlbhkjcimaaDoor
/- Plain facts on UTF-16 units and on UTF-8, of no program: units as code points, code points as bytes, and both ways back. -/
namespace Go.Proofs.YtnmidlbhkjcimaaDoor

/-- The code points of units; none, if they are no text. -/
def pairUp : List Int → Option (List Int)
  | [] => some []
  | [c] => if c < 0 ∨ 65536 ≤ c ∨ halfB c = true then none else some [c]
  | c :: d :: t => if c < 0 ∨ 65536 ≤ c then none else if halfB c = true then (if pairB c d = true then (pairUp t).map ((65536 + 1024 * (c - 55296) + d - 56320) :: ·) else none) else (pairUp (d :: t)).map (c :: ·)
/-- The bytes of code points. -/
def bytesOf (cs : List Int) : List UInt8 := cs.flatMap Lib.encodeRune
/-- The text of units. -/
def joinL (l : List Int) : Option (List UInt8) := (pairUp l).map bytesOf
/-- A code point's units. -/
def unitOf (c : Int) : List Int := if c < 65536 then [c] else [55296 + (c - 65536) / 1024, 56320 + (c - 65536) % 1024]
def unitsOf (cs : List Int) : List Int := cs.flatMap unitOf
/-- A code point that may be encoded. -/
def okB (c : Int) : Bool := decide (0 ≤ c ∧ c ≤ 1114111 ∧ halfB c = false)

theorem pairUp_one {c : Int} {t : List Int} (h0 : ¬ c < 0) (h1 : ¬ 65536 ≤ c) (h2 : halfB c = false) : pairUp (c :: t) = (pairUp t).map (c :: ·) := by
  cases t with
  | nil => simp [pairUp, h0, h1, h2]
  | cons d t => simp [pairUp, h0, h1, h2]
theorem pairUp_two {c d : Int} {t : List Int} (h0 : ¬ c < 0) (h1 : ¬ 65536 ≤ c) (h2 : halfB c = true) (h3 : pairB c d = true) : pairUp (c :: d :: t) = (pairUp t).map ((65536 + 1024 * (c - 55296) + d - 56320) :: ·) := by
  simp [pairUp, h0, h1, h2, h3]
theorem pairUp_range {c : Int} {t : List Int} (h : c < 0 ∨ 65536 ≤ c) : pairUp (c :: t) = none := by
  cases t with
  | nil => simp only [pairUp]; rw [if_pos (by rcases h with h | h; exact .inl h; exact .inr (.inl h))]
  | cons d t => simp only [pairUp]; rw [if_pos h]
theorem pairUp_end {c : Int} (h : halfB c = true) : pairUp [c] = none := by
  simp [pairUp, h]
theorem pairUp_odd {c d : Int} {t : List Int} (h2 : halfB c = true) (h3 : pairB c d = false) : pairUp (c :: d :: t) = none := by
  simp [pairUp, h2, h3]
theorem pairUp_nil : pairUp [] = some [] := rfl

/-- What units are, is a list of code points that may be encoded, and these are those units. -/
theorem units_of_pairUp : ∀ (n : Nat) (l cs : List Int), l.length ≤ n → pairUp l = some cs → unitsOf cs = l ∧ cs.all okB = true := by
  intro n
  induction n with
  | zero =>
    intro l cs hl h
    have : l = [] := List.eq_nil_of_length_eq_zero (by omega)
    subst this
    simp only [pairUp, Option.some.injEq] at h
    subst h
    exact ⟨rfl, rfl⟩
  | succ n ih =>
    intro l cs hl h
    cases l with
    | nil =>
      simp only [pairUp, Option.some.injEq] at h
      subst h
      exact ⟨rfl, rfl⟩
    | cons c t =>
      by_cases hr : c < 0 ∨ 65536 ≤ c
      · rw [pairUp_range hr] at h; cases h
      · cases hh : halfB c
        · rw [pairUp_one (by omega) (by omega) hh] at h
          obtain ⟨cs', h', rfl⟩ := Option.map_eq_some_iff.1 h
          obtain ⟨a, b⟩ := ih t cs' (by simp at hl; omega) h'
          refine ⟨?_, ?_⟩
          · have : unitOf c = [c] := by unfold unitOf; rw [if_pos (by omega)]
            show unitOf c ++ unitsOf cs' = _
            rw [this, a]; rfl
          · rw [List.all_cons, b, Bool.and_true]
            simp [okB, hh]; omega
        · cases t with
          | nil => rw [pairUp_end hh] at h; cases h
          | cons d t =>
            cases hp : pairB c d
            · rw [pairUp_odd hh hp] at h; cases h
            · rw [pairUp_two (by omega) (by omega) hh hp] at h
              obtain ⟨cs', h', rfl⟩ := Option.map_eq_some_iff.1 h
              obtain ⟨a, b⟩ := ih t cs' (by simp at hl; omega) h'
              have hp' : 55296 ≤ c ∧ c < 56320 ∧ 56320 ≤ d ∧ d ≤ 57343 := by simpa [pairB] using hp
              refine ⟨?_, ?_⟩
              · have : unitOf (65536 + 1024 * (c - 55296) + d - 56320) = [c, d] := by
                  unfold unitOf
                  rw [if_neg (by omega)]
                  congr 1
                  · omega
                  · congr 1; omega
                show unitOf _ ++ unitsOf cs' = _
                rw [this, a]; rfl
              · rw [List.all_cons, b, Bool.and_true]
                simp [okB, halfB]; omega
theorem pairUp_units : ∀ (cs : List Int), cs.all okB = true → pairUp (unitsOf cs) = some cs := by
  intro cs
  induction cs with
  | nil => intro _; rfl
  | cons c cs ih =>
    intro h
    rw [List.all_cons, Bool.and_eq_true] at h
    have hok : 0 ≤ c ∧ c ≤ 1114111 ∧ halfB c = false := by simpa [okB] using h.1
    show pairUp (unitOf c ++ unitsOf cs) = _
    unfold unitOf
    by_cases h6 : c < 65536
    · rw [if_pos h6]
      show pairUp (c :: unitsOf cs) = _
      rw [pairUp_one (by omega) (by omega) hok.2.2, ih h.2]; rfl
    · rw [if_neg h6]
      show pairUp (_ :: _ :: unitsOf cs) = _
      rw [pairUp_two (by omega) (by omega) (by simp [halfB]; omega) (by simp [pairB]; omega), ih h.2]
      simp only [Option.map_some, Option.some.injEq]
      congr 1
      omega

/- UTF-8: BOTH WAYS -/
theorem byt_cons_zero (b : UInt8) (t : List UInt8) : byt (b :: t) 0 = (b.toNat : Int) := rfl
theorem byt_cons_succ (b : UInt8) (t : List UInt8) (k : Nat) : byt (b :: t) (k + 1) = byt t k := rfl
theorem toNat_ofInt {x : Int} (h0 : 0 ≤ x) (h1 : x < 256) : ((x.toNat.toUInt8).toNat : Int) = x := by
  obtain ⟨n, rfl⟩ := Int.eq_ofNat_of_zero_le h0
  simp [Nat.toUInt8, UInt8.toNat_ofNat']
  omega
theorem eq_of_num {a b : UInt8} (h : (a.toNat : Int) = (b.toNat : Int)) : a = b := UInt8.toNat_inj.1 (by omega)

theorem leads_inj {j k : Nat} {a : Int} (hj : j < 4) (hk : k < 4) (h1 : leads j a) (h2 : leads k a) : j = k := by
  unfold leads at h1 h2
  match j, hj, k, hk with
  | 0, _, 0, _ | 1, _, 1, _ | 2, _, 2, _ | 3, _, 3, _ => rfl
  | 0, _, 1, _ | 0, _, 2, _ | 0, _, 3, _ | 1, _, 0, _ | 1, _, 2, _ | 1, _, 3, _ | 2, _, 0, _ | 2, _, 1, _ | 2, _, 3, _ | 3, _, 0, _ | 3, _, 1, _ | 3, _, 2, _ =>
    simp only [lead, wide] at h1 h2; omega
theorem dec_of {l : List UInt8} {k : Nat} {c : Int} (hk : k < 4) (h1 : k < l.length) (h2 : leads k (byt l 0)) (h3 : contTo l (k + 1) = true) (ha : acc l (byt l 0 - lead k) (k + 1) = c) (h4 : fair k c) : dec l = (c, (k : Int) + 1) := by
  subst ha
  exact dec_some hk (fun j hj => decK_leads (fun h => by have := leads_inj (by omega) hk h h2; omega)) (decK_yes h1 h2 h3 h4)
theorem contB_yes {b : Int} (h0 : 128 ≤ b) (h1 : b ≤ 191) : contB b = true := by simp [contB, h0, h1]

/-- What is encoded is read, whatever stands behind it. -/
theorem dec_encode {c : Int} (h : okB c = true) (t : List UInt8) : dec (Lib.encodeRune c ++ t) = (c, ((Lib.encodeRune c).length : Int)) := by
  have hok : 0 ≤ c ∧ c ≤ 1114111 ∧ halfB c = false := by simpa [okB] using h
  obtain ⟨h0, h1, h2⟩ := hok
  have hh : ¬ (55296 ≤ c ∧ c ≤ 57343) := by simpa [halfB] using h2
  by_cases a1 : c ≤ 127
  · have e : Lib.encodeRune c = [c.toNat.toUInt8] := by simp [Lib.encodeRune, Lib.encodeRuneZ_one h0 a1]
    rw [e]
    have b0 : byt ([c.toNat.toUInt8] ++ t) 0 = c := toNat_ofInt h0 (by omega)
    have hl : 1 ≤ ([c.toNat.toUInt8] ++ t).length := by simp
    generalize [c.toNat.toUInt8] ++ t = l at *
    exact dec_of (k := 0) (by omega) (by omega) (by rw [b0]; simp only [leads, lead, wide]; omega) rfl (by rw [b0]; simp [acc, lead]) ⟨h0, h1, h2⟩
  by_cases a2 : c ≤ 2047
  · have e : Lib.encodeRune c = [(192 + c / 64).toNat.toUInt8, (128 + c % 64).toNat.toUInt8] := by simp [Lib.encodeRune, Lib.encodeRuneZ_two (by omega) a2]
    rw [e]
    generalize hx : (192 + c / 64).toNat.toUInt8 = x
    generalize hy : (128 + c % 64).toNat.toUInt8 = y
    have b0 : byt ([x, y] ++ t) 0 = 192 + c / 64 := by rw [← hx]; exact toNat_ofInt (by omega) (by omega)
    have b1 : byt ([x, y] ++ t) 1 = 128 + c % 64 := by rw [← hy]; exact toNat_ofInt (by omega) (by omega)
    have hl : 2 ≤ ([x, y] ++ t).length := by simp
    generalize [x, y] ++ t = l at *
    refine dec_of (k := 1) (by omega) (by omega) (by rw [b0]; simp only [leads, lead, wide]; omega) ?_ ?_ ⟨by simp only [least]; omega, h1, h2⟩
    · simp only [contTo, b1, Bool.true_and]; exact contB_yes (by omega) (by omega)
    · simp only [acc, b0, b1, lead]; omega
  by_cases a3 : c ≤ 65535
  · have e : Lib.encodeRune c = [(224 + c / 4096).toNat.toUInt8, (128 + c / 64 % 64).toNat.toUInt8, (128 + c % 64).toNat.toUInt8] := by simp [Lib.encodeRune, Lib.encodeRuneZ_three (show (2048 ≤ c ∧ c < 55296) ∨ (57343 < c ∧ c ≤ 65535) by omega)]
    rw [e]
    generalize hx : (224 + c / 4096).toNat.toUInt8 = x
    generalize hy : (128 + c / 64 % 64).toNat.toUInt8 = y
    generalize hz : (128 + c % 64).toNat.toUInt8 = z
    have b0 : byt ([x, y, z] ++ t) 0 = 224 + c / 4096 := by rw [← hx]; exact toNat_ofInt (by omega) (by omega)
    have b1 : byt ([x, y, z] ++ t) 1 = 128 + c / 64 % 64 := by rw [← hy]; exact toNat_ofInt (by omega) (by omega)
    have b2 : byt ([x, y, z] ++ t) 2 = 128 + c % 64 := by rw [← hz]; exact toNat_ofInt (by omega) (by omega)
    have hl : 3 ≤ ([x, y, z] ++ t).length := by simp
    generalize [x, y, z] ++ t = l at *
    refine dec_of (k := 2) (by omega) (by omega) (by rw [b0]; simp only [leads, lead, wide]; omega) ?_ ?_ ⟨by simp only [least]; omega, h1, h2⟩
    · simp only [contTo, b1, b2, Bool.true_and]; rw [contB_yes (by omega) (by omega), contB_yes (by omega) (by omega)]; rfl
    · simp only [acc, b0, b1, b2, lead]; omega
  · have e : Lib.encodeRune c = [(240 + c / 262144).toNat.toUInt8, (128 + c / 4096 % 64).toNat.toUInt8, (128 + c / 64 % 64).toNat.toUInt8, (128 + c % 64).toNat.toUInt8] := by simp [Lib.encodeRune, Lib.encodeRuneZ_four (show 65536 ≤ c by omega) h1]
    rw [e]
    generalize hx : (240 + c / 262144).toNat.toUInt8 = x
    generalize hy : (128 + c / 4096 % 64).toNat.toUInt8 = y
    generalize hz : (128 + c / 64 % 64).toNat.toUInt8 = z
    generalize hu : (128 + c % 64).toNat.toUInt8 = u
    have b0 : byt ([x, y, z, u] ++ t) 0 = 240 + c / 262144 := by rw [← hx]; exact toNat_ofInt (by omega) (by omega)
    have b1 : byt ([x, y, z, u] ++ t) 1 = 128 + c / 4096 % 64 := by rw [← hy]; exact toNat_ofInt (by omega) (by omega)
    have b2 : byt ([x, y, z, u] ++ t) 2 = 128 + c / 64 % 64 := by rw [← hz]; exact toNat_ofInt (by omega) (by omega)
    have b3 : byt ([x, y, z, u] ++ t) 3 = 128 + c % 64 := by rw [← hu]; exact toNat_ofInt (by omega) (by omega)
    have hl : 4 ≤ ([x, y, z, u] ++ t).length := by simp
    generalize [x, y, z, u] ++ t = l at *
    refine dec_of (k := 3) (by omega) (by omega) (by rw [b0]; simp only [leads, lead, wide]; omega) ?_ ?_ ⟨by simp only [least]; omega, h1, h2⟩
    · simp only [contTo, b1, b2, b3, Bool.true_and]; rw [contB_yes (by omega) (by omega), contB_yes (by omega) (by omega), contB_yes (by omega) (by omega)]; rfl
    · simp only [acc, b0, b1, b2, b3, lead]; omega

theorem ofNum {b : UInt8} {x : Int} (h : (b.toNat : Int) = x) : x.toNat.toUInt8 = b := by
  subst h; simp
set_option maxRecDepth 10000 in
/-- What is read is encoded so. -/
theorem encode_dec {l : List UInt8} (h : (dec l).2 ≠ 0) : Lib.encodeRune (dec l).1 = l.take (dec l).2.toNat := by
  rcases dec_cases l with ⟨_, h'⟩ | ⟨k, hk, _, h'⟩
  · rw [h'] at h; exact absurd rfl h
  · obtain ⟨e2, hlen, h0, hf⟩ := decK_bd hk h'
    have hp := h'
    unfold decK at hp
    split at hp
    · rename_i hc
      obtain ⟨_, hL, hC, _⟩ := hc
      injection hp with hp
      have e1 : (dec l).1 = acc l (byt l 0 - lead k) (k + 1) := by rw [← hp]
      rw [e2, show ((k : Int) + 1).toNat = k + 1 from by omega]
      unfold fair at hf
      generalize (dec l).1 = c at *
      clear h h' hp e2
      have hh : ¬ (55296 ≤ c ∧ c ≤ 57343) := by simpa [halfB] using hf.2.2
      have hcb : ∀ b : Int, contB b = true → 128 ≤ b ∧ b ≤ 191 := fun b hb => by simpa [contB] using hb
      match k, hk with
      | 0, _ =>
        match l, hlen with
        | x :: t, _ =>
          simp only [acc, byt_cons_zero, lead, leads, wide] at e1 hL
          rw [Lib.encodeRune, Lib.encodeRuneZ_one h0 (by omega)]
          simp only [List.map, List.take_succ_cons, List.take_zero]
          rw [ofNum (b := x) (by omega)]
      | 1, _ =>
        match l, hlen with
        | x :: y :: t, _ =>
          simp only [acc, byt_cons_zero, byt_cons_succ, lead, leads, wide, contTo, Bool.true_and] at e1 hL hC
          have c1 := hcb _ hC
          simp only [least] at hf
          rw [Lib.encodeRune, Lib.encodeRuneZ_two (by omega) (by omega)]
          simp only [List.map, List.take_succ_cons, List.take_zero]
          rw [ofNum (b := x) (by omega), ofNum (b := y) (by omega)]
      | 2, _ =>
        match l, hlen with
        | x :: y :: z :: t, _ =>
          simp only [acc, byt_cons_zero, byt_cons_succ, lead, leads, wide, contTo, Bool.true_and, Bool.and_eq_true] at e1 hL hC
          have c1 := hcb _ hC.1
          have c2 := hcb _ hC.2
          simp only [least] at hf
          rw [Lib.encodeRune, Lib.encodeRuneZ_three (by omega)]
          simp only [List.map, List.take_succ_cons, List.take_zero]
          rw [ofNum (b := x) (by omega), ofNum (b := y) (by omega), ofNum (b := z) (by omega)]
      | 3, _ =>
        match l, hlen with
        | x :: y :: z :: u :: t, _ =>
          simp only [acc, byt_cons_zero, byt_cons_succ, lead, leads, wide, contTo, Bool.true_and, Bool.and_eq_true] at e1 hL hC
          have c1 := hcb _ hC.1.1
          have c2 := hcb _ hC.1.2
          have c3 := hcb _ hC.2
          simp only [least] at hf
          rw [Lib.encodeRune, Lib.encodeRuneZ_four (by omega) (by omega)]
          simp only [List.map, List.take_succ_cons, List.take_zero]
          rw [ofNum (b := x) (by omega), ofNum (b := y) (by omega), ofNum (b := z) (by omega), ofNum (b := u) (by omega)]
    · cases hp
theorem encode_ne (c : Int) : Lib.encodeRune c ≠ [] := by
  have := (Lib.encodeRuneZ_length c).1
  intro e
  have h := congrArg List.length e
  simp [Lib.encodeRune] at h
  rw [h] at this
  simp at this
/-- The code points of the bytes of code points are these. -/
theorem codes_bytes : ∀ (cs : List Int) (t : List UInt8), cs.all okB = true → codes (bytesOf cs ++ t) = (codes t).map (cs ++ ·) := by
  intro cs
  induction cs with
  | nil => intro t _; show codes t = _; cases codes t <;> rfl
  | cons c cs ih =>
    intro t h
    rw [List.all_cons, Bool.and_eq_true] at h
    have e : bytesOf (c :: cs) ++ t = Lib.encodeRune c ++ (bytesOf cs ++ t) := by simp [bytesOf]
    have hd := dec_encode h.1 (bytesOf cs ++ t)
    have hne := encode_ne c
    have hpos : 0 < (Lib.encodeRune c).length := List.length_pos_iff.2 hne
    rw [e, codes_step (by simp [hne]) (by rw [hd]; show ((Lib.encodeRune c).length : Int) ≠ 0; omega), hd]
    show Option.map _ (codes (List.drop (((Lib.encodeRune c).length : Int)).toNat _)) = _
    rw [show (((Lib.encodeRune c).length : Int)).toNat = (Lib.encodeRune c).length from by omega, List.drop_left, ih t h.2]
    cases codes t <;> rfl
/-- A text is the bytes of its code points, and these may be encoded. -/
theorem bytes_codes : ∀ (n : Nat) (l : List UInt8) (cs : List Int), l.length ≤ n → codes l = some cs → bytesOf cs = l ∧ cs.all okB = true := by
  intro n
  induction n with
  | zero =>
    intro l cs hl h
    have : l = [] := List.eq_nil_of_length_eq_zero (by omega)
    subst this
    rw [codes_nil, Option.some.injEq] at h
    subst h
    exact ⟨rfl, rfl⟩
  | succ n ih =>
    intro l cs hl h
    by_cases hn : l = []
    · subst hn
      rw [codes_nil, Option.some.injEq] at h
      subst h
      exact ⟨rfl, rfl⟩
    · by_cases h0 : (dec l).2 = 0
      · rw [codes_bad hn h0] at h; cases h
      · rw [codes_step hn h0] at h
        obtain ⟨cs', h', rfl⟩ := Option.map_eq_some_iff.1 h
        have hb := dec_bd l
        obtain ⟨a, b⟩ := ih _ cs' (by rw [List.length_drop]; omega) h'
        refine ⟨?_, ?_⟩
        · show Lib.encodeRune (dec l).1 ++ bytesOf cs' = l
          rw [encode_dec h0, a, List.take_append_drop]
        · rw [List.all_cons, b, Bool.and_true]
          simp [okB, hb.2.2.2.2.2]; omega
theorem codes_append {l : List UInt8} {cs : List Int} (h : codes l = some cs) (t : List UInt8) : codes (l ++ t) = (codes t).map (cs ++ ·) := by
  obtain ⟨a, b⟩ := bytes_codes _ l cs (Nat.le_refl _) h
  conv => lhs; rw [← a]
  exact codes_bytes cs t b
end Go.Proofs.YtnmidlbhkjcimaaDoor
/- Plain facts on lines of bytes, of no program: lines, how far they stand in, what a block says. -/
namespace Go.Proofs.YtnmidlbhkjcimaaDoor.Blk

/-- Does a byte end a line? -/
def eolB (c : UInt8) : Bool := c == 10 || c == 13
/-- The first line. -/
def firstL (l : List UInt8) : List UInt8 := l.takeWhile fun c => !eolB c
/-- What stands behind the end of the first line, if it has one. -/
def afterL (l : List UInt8) : Option (List UInt8) :=
  match l.dropWhile fun c => !eolB c with
  | [] => none
  | c :: t => if c = 13 then (match t with | d :: t' => if d = 10 then some t' else some t | [] => some t) else some t
def linesF : Nat → List UInt8 → List (List UInt8)
  | 0, l => [l]
  | n + 1, l => firstL l :: (match afterL l with | none => [] | some t => linesF n t)
/-- The lines of a text. -/
def linesL (l : List UInt8) : List (List UInt8) := linesF (l.length + 1) l

theorem dropWhile_len (p : UInt8 → Bool) : ∀ l : List UInt8, (l.dropWhile p).length ≤ l.length := by
  intro l
  induction l with
  | nil => simp
  | cons c t ih => rw [List.dropWhile_cons]; split <;> simp <;> omega
theorem afterL_len {l t : List UInt8} (h : afterL l = some t) : t.length < l.length := by
  unfold afterL at h
  have hl := dropWhile_len (fun c => !eolB c) l
  split at h
  · cases h
  · rename_i c r hd
    rw [hd] at hl
    simp only [List.length_cons] at hl
    split at h
    · split at h
      · split at h
        · cases h; simp only [List.length_cons] at hl; omega
        · cases h; simp only [List.length_cons] at hl ⊢; omega
      · cases h; simp only [List.length_nil] at hl ⊢; omega
    · cases h; omega
theorem linesF_enough : ∀ (n m : Nat) (l : List UInt8), l.length < n → l.length < m → linesF n l = linesF m l := by
  intro n
  induction n with
  | zero => intro m l h; omega
  | succ n ih =>
    intro m l hn hm
    cases m with
    | zero => omega
    | succ m =>
      simp only [linesF]
      cases ha : afterL l with
      | none => rfl
      | some t =>
        have := afterL_len ha
        simp only
        rw [ih m t (by omega) (by omega)]
theorem linesL_eq (l : List UInt8) : linesL l = firstL l :: (match afterL l with | none => [] | some t => linesL t) := by
  show linesF (l.length + 1) l = _
  simp only [linesF]
  cases ha : afterL l with
  | none => rfl
  | some t =>
    have := afterL_len ha
    simp only [linesL]
    rw [linesF_enough l.length (t.length + 1) t (by omega) (by omega)]

/-- A list of bytes none of which ends a line. -/
def plainL (l : List UInt8) : Prop := ∀ c ∈ l, eolB c = false
theorem takeWhile_plain {a : List UInt8} (h : plainL a) (r : List UInt8) : (a ++ r).takeWhile (fun c => !eolB c) = a ++ r.takeWhile (fun c => !eolB c) := by
  induction a with
  | nil => rfl
  | cons c a ih =>
    have hc := h c (by simp)
    rw [List.cons_append, List.takeWhile_cons, hc, List.cons_append]
    simp only [Bool.not_false, if_true]
    rw [ih (fun d hd => h d (by simp [hd]))]
theorem dropWhile_plain {a : List UInt8} (h : plainL a) (r : List UInt8) : (a ++ r).dropWhile (fun c => !eolB c) = r.dropWhile (fun c => !eolB c) := by
  induction a with
  | nil => rfl
  | cons c a ih =>
    have hc := h c (by simp)
    rw [List.cons_append, List.dropWhile_cons, hc]
    simp only [Bool.not_false, if_true]
    exact ih (fun d hd => h d (by simp [hd]))
/-- A text of one line. -/
theorem linesL_one {a : List UInt8} (h : plainL a) : linesL a = [a] := by
  have h1 := takeWhile_plain h []
  have h2 := dropWhile_plain h []
  rw [List.append_nil] at h1 h2
  rw [linesL_eq]
  unfold firstL afterL
  rw [h1, h2]
  simp
/-- A line that ends with a 10. -/
theorem linesL_ten {a r : List UInt8} (h : plainL a) : linesL (a ++ 10 :: r) = a :: linesL r := by
  rw [linesL_eq]
  unfold firstL afterL
  rw [takeWhile_plain h, dropWhile_plain h]
  simp [eolB]
/-- A line that ends with a 13 and a 10. -/
theorem linesL_both {a r : List UInt8} (h : plainL a) : linesL (a ++ 13 :: 10 :: r) = a :: linesL r := by
  rw [linesL_eq]
  unfold firstL afterL
  rw [takeWhile_plain h, dropWhile_plain h]
  simp [eolB]
/-- A line that ends with a 13 alone. -/
theorem linesL_cr {a r : List UInt8} (h : plainL a) (hr : r.head? ≠ some 10) : linesL (a ++ 13 :: r) = a :: linesL r := by
  rw [linesL_eq]
  unfold firstL afterL
  rw [takeWhile_plain h, dropWhile_plain h]
  cases r with
  | nil => simp [eolB]
  | cons d r =>
    have hd : d ≠ 10 := fun e => hr (by rw [e]; rfl)
    simp [eolB, hd]
theorem linesL_ne (l : List UInt8) : linesL l ≠ [] := by rw [linesL_eq]; simp
theorem takeWhile_all (l : List UInt8) : plainL (l.takeWhile fun c => !eolB c) := by
  intro c hc
  have := List.all_takeWhile (p := fun c => !eolB c) (l := l)
  rw [List.all_eq_true] at this
  simpa using this c hc
/-- No line has a line's end. -/
theorem linesL_plain : ∀ (n : Nat) (l : List UInt8), l.length < n → ∀ x ∈ linesL l, plainL x := by
  intro n
  induction n with
  | zero => intro l h; omega
  | succ n ih =>
    intro l hl x hx
    rw [linesL_eq] at hx
    cases ha : afterL l with
    | none =>
      rw [ha] at hx
      simp only [List.mem_cons, List.not_mem_nil, or_false] at hx
      rw [hx]; exact takeWhile_all l
    | some t =>
      rw [ha] at hx
      have := afterL_len ha
      simp only [List.mem_cons] at hx
      rcases hx with hx | hx
      · rw [hx]; exact takeWhile_all l
      · exact ih t (by omega) x hx

/- HOW FAR LINES STAND IN -/
def blankB (c : UInt8) : Bool := c == 9 || c == 32
/-- How many blanks stand at the front. -/
def leadN (l : List UInt8) : Nat := (l.takeWhile blankB).length
/-- Is there anything else? -/
def inkB (l : List UInt8) : Bool := l.any fun c => !blankB c
def stepI (out : Int) (x : List UInt8) : Int := if inkB x = true ∧ (out < 0 ∨ (leadN x : Int) < out) then (leadN x : Int) else out
/-- The least number of blanks ahead of what is said, over all lines but the first; -1 if there is none. -/
def indentL (ls : List (List UInt8)) : Int := (ls.drop 1).foldl stepI (-1)

/- WHAT A BLOCK SAYS -/
def cutL (n : Nat) : List (List UInt8) → List (List UInt8)
  | [] => []
  | x :: t => x :: t.map (List.drop n)
def frontL (ls : List (List UInt8)) : List (List UInt8) := ls.dropWhile fun x => !inkB x
def trimL (ls : List (List UInt8)) : List (List UInt8) := (frontL (frontL ls).reverse).reverse
def joinTen : List (List UInt8) → List UInt8
  | [] => []
  | [x] => x
  | x :: y :: t => x ++ 10 :: joinTen (y :: t)
def shownL (raw : List UInt8) : List (List UInt8) := trimL (cutL (max (indentL (linesL raw)) 0).toNat (linesL raw))
def valueL (raw : List UInt8) : List UInt8 := joinTen (shownL raw)

theorem linesL_join : ∀ (ts : List (List UInt8)), ts ≠ [] → (∀ x ∈ ts, plainL x) → linesL (joinTen ts) = ts := by
  intro ts
  induction ts with
  | nil => intro h; exact absurd rfl h
  | cons x t ih =>
    intro _ h
    cases t with
    | nil => exact linesL_one (h x (by simp))
    | cons y t =>
      show linesL (x ++ 10 :: joinTen (y :: t)) = _
      rw [linesL_ten (h x (by simp)), ih (by simp) (fun z hz => h z (by simp only [List.mem_cons] at hz ⊢; exact .inr hz))]
end Go.Proofs.YtnmidlbhkjcimaaDoor.Blk
/- Plain facts on tokens, of no program: what stands between them, numbers, words, marks, what quotes say, the tokens of a text. -/
namespace Go.Proofs.YtnmidlbhkjcimaaDoor

def digU (b : UInt8) : Bool := digB (b.toNat : Int)
def letU (b : UInt8) : Bool := letB (b.toNat : Int)
def nameU (b : UInt8) : Bool := letU b || digU b
def isGap (b : UInt8) : Bool := b == 9 || b == 10 || b == 13 || b == 32 || b == 44
def noEol (b : UInt8) : Bool := !(b == 10 || b == 13)
def isMark (b : UInt8) : Bool := [33, 36, 38, 40, 41, 58, 61, 64, 91, 93, 123, 124, 125].contains b
/-- Does l begin with p? -/
def pre (p l : List UInt8) : Bool := p.isPrefixOf l

/-- How long is what stands at the head and belongs to no token? -/
def gapL : List UInt8 → Nat
  | [] => 0
  | b :: t => if isGap b then 1 else if b == 35 then 1 + (t.takeWhile noEol).length else if pre [239, 187, 191] (b :: t) then 3 else 0

def runL (l : List UInt8) : Nat := (l.takeWhile digU).length
def fracL : List UInt8 → Nat
  | [] => 0
  | b :: t => if b == 46 then (if runL t = 0 then 0 else 1 + runL t) else 0
def signL : List UInt8 → Nat
  | [] => 0
  | b :: _ => if b == 43 || b == 45 then 1 else 0
def expoL : List UInt8 → Nat
  | [] => 0
  | b :: t => if b == 101 || b == 69 then (if runL (t.drop (signL t)) = 0 then 0 else 1 + signL t + runL (t.drop (signL t))) else 0
def minusL : List UInt8 → Nat
  | [] => 0
  | b :: _ => if b == 45 then 1 else 0
def wholeL : List UInt8 → Nat
  | [] => 0
  | b :: t => if b == 48 then 1 else runL (b :: t)
/-- How long is the number at the head, and of which kind? -/
def numeralL (l : List UInt8) : Nat × Int :=
  if wholeL (l.drop (minusL l)) = 0 then (0, 0) else
    (minusL l + wholeL (l.drop (minusL l)) + fracL (l.drop (minusL l + wholeL (l.drop (minusL l)))) + expoL (l.drop (minusL l + wholeL (l.drop (minusL l)) + fracL (l.drop (minusL l + wholeL (l.drop (minusL l)))))),
     if fracL (l.drop (minusL l + wholeL (l.drop (minusL l)))) = 0 ∧ expoL (l.drop (minusL l + wholeL (l.drop (minusL l)) + fracL (l.drop (minusL l + wholeL (l.drop (minusL l)))))) = 0 then 3 else 4)
/-- What may not stand behind a number. -/
def behindB : List UInt8 → Bool
  | [] => false
  | b :: _ => digU b || letU b || b == 46
def numberL (l : List UInt8) : Nat × Int :=
  if (numeralL l).1 = 0 then (0, 0) else if behindB (l.drop (numeralL l).1) then (0, 0) else numeralL l
def kindL (l : List UInt8) : Int := if (numberL l).1 < l.length then 0 else (numberL l).2

def wordN : List UInt8 → Nat
  | [] => 0
  | b :: t => if letU b then 1 + (t.takeWhile nameU).length else 0
def markN : List UInt8 → Nat
  | [] => 0
  | b :: t => if pre [46, 46, 46] (b :: t) then 3 else if isMark b then 1 else 0

/-- A digit to the base 16; 16 or more: none. -/
def hexI (b : UInt8) : Int :=
  if 48 ≤ (b.toNat : Int) ∧ (b.toNat : Int) ≤ 57 then (b.toNat : Int) - 48 else if 97 ≤ (b.toNat : Int) ∧ (b.toNat : Int) ≤ 102 then (b.toNat : Int) - 87 else if 65 ≤ (b.toNat : Int) ∧ (b.toNat : Int) ≤ 70 then (b.toNat : Int) - 55 else 16
def hexB (b : UInt8) : Bool := decide (hexI b < 16)
def hexV (a b c d : UInt8) : Int := ((hexI a * 16 + hexI b) * 16 + hexI c) * 16 + hexI d
/-- The unit that is written at the head. -/
def unitAt : List UInt8 → Option Int
  | x :: y :: a :: b :: c :: d :: _ => if x == 92 && y == 117 && hexB a && hexB b && hexB c && hexB d then some (hexV a b c d) else none
  | _ => none
def hexRunF : Nat → List UInt8 → List Int
  | 0, _ => []
  | n + 1, l => match unitAt l with | some u => u :: hexRunF n (l.drop 6) | none => []
/-- The units that are written at the head, one directly behind the other. -/
def hexRun (l : List UInt8) : List Int := hexRunF l.length l
def escB (c : UInt8) : Option UInt8 :=
  if c == 34 then some 34 else if c == 92 then some 92 else if c == 47 then some 47 else if c == 98 then some 8 else if c == 102 then some 12 else if c == 110 then some 10 else if c == 114 then some 13 else if c == 116 then some 9 else none
/-- What an escape sequence at the head stands for (with all units that follow a unit), and its length. -/
def escL (l : List UInt8) : Option (List UInt8 × Nat) :=
  if hexRun l = [] then (match l with | _ :: c :: _ => (escB c).map fun x => ([x], 2) | _ => none)
  else (joinL (hexRun l)).map fun x => (x, 6 * (hexRun l).length)
def lineF : Nat → List UInt8 → Option (List UInt8 × Nat)
  | 0, _ => none
  | _ + 1, [] => none
  | n + 1, b :: t =>
    if b == 34 then some ([], 1) else if b == 10 || b == 13 then none else if b == 92 then
      (match escL (b :: t) with
      | none => none
      | some p => (lineF n ((b :: t).drop p.2)).map fun q => (p.1 ++ q.1, p.2 + q.2))
    else (lineF n t).map fun q => (b :: q.1, 1 + q.2)
/-- What a quote of one line says, behind its first sign, and its length. -/
def lineL (l : List UInt8) : Option (List UInt8 × Nat) := lineF (l.length + 1) l
def rawF : Nat → List UInt8 → Option (List UInt8 × Nat)
  | 0, _ => none
  | _ + 1, [] => none
  | n + 1, b :: t =>
    if pre [34, 34, 34] (b :: t) then some ([], 3) else if pre [92, 34, 34, 34] (b :: t) then (rawF n ((b :: t).drop 4)).map fun q => ([34, 34, 34] ++ q.1, 4 + q.2)
    else (rawF n t).map fun q => (b :: q.1, 1 + q.2)
/-- The raw contents of a block string, behind its first three signs, and their length with the last three. -/
def rawL (l : List UInt8) : Option (List UInt8 × Nat) := rawF (l.length + 1) l
def quoteL : List UInt8 → Option (List UInt8 × Nat)
  | [] => none
  | b :: t => if pre [34, 34, 34] (b :: t) then (rawL ((b :: t).drop 3)).map fun q => (Blk.valueL q.1, 3 + q.2) else if b == 34 then (lineL t).map fun q => (q.1, 1 + q.2) else none
/-- The token at the head, and its length. -/
def tokL (l : List UInt8) : Option ((Int × List UInt8) × Nat) :=
  if markN l ≠ 0 then some ((1, l.take (markN l)), markN l)
  else if wordN l ≠ 0 then some ((2, l.take (wordN l)), wordN l)
  else if (numberL l).1 ≠ 0 then some (((numberL l).2, l.take (numberL l).1), (numberL l).1)
  else (quoteL l).map fun q => ((5, q.1), q.2)
def readF : Nat → List UInt8 → Option (List (Int × List UInt8))
  | 0, _ => none
  | n + 1, l =>
    if gapL l ≠ 0 then readF n (l.drop (gapL l)) else if l = [] then some [] else
      match tokL l with
      | none => none
      | some p => (readF n (l.drop p.2)).map (p.1 :: ·)
/-- The tokens of a text. -/
def readL (l : List UInt8) : Option (List (Int × List UInt8)) := readF (l.length + 1) l

/- How long these are. -/
theorem takeWhile_le (p : UInt8 → Bool) (l : List UInt8) : (l.takeWhile p).length ≤ l.length := (List.takeWhile_sublist p).length_le
theorem pre_len {p l : List UInt8} (h : pre p l = true) : p.length ≤ l.length := by
  unfold pre at h
  rw [List.isPrefixOf_iff_prefix] at h
  exact h.length_le
theorem gapL_le (l : List UInt8) : gapL l ≤ l.length := by
  cases l with
  | nil => simp [gapL]
  | cons b t =>
    have := takeWhile_le noEol t
    simp only [gapL]
    split
    · simp
    · split
      · simp only [List.length_cons]; omega
      · split
        · rename_i h; have := pre_len h; simpa using this
        · simp
theorem runL_le (l : List UInt8) : runL l ≤ l.length := takeWhile_le _ _
theorem fracL_le (l : List UInt8) : fracL l ≤ l.length := by
  cases l with
  | nil => simp [fracL]
  | cons b t =>
    have := runL_le t
    simp only [fracL, List.length_cons]
    split
    · split <;> omega
    · omega
theorem signL_le (l : List UInt8) : signL l ≤ l.length := by
  cases l with
  | nil => simp [signL]
  | cons b t => simp only [signL, List.length_cons]; split <;> omega
theorem expoL_le (l : List UInt8) : expoL l ≤ l.length := by
  cases l with
  | nil => simp [expoL]
  | cons b t =>
    have := signL_le t
    have := runL_le (t.drop (signL t))
    simp only [expoL, List.length_cons, List.length_drop] at *
    split
    · split <;> omega
    · omega
theorem minusL_le (l : List UInt8) : minusL l ≤ l.length := by
  cases l with
  | nil => simp [minusL]
  | cons b t => simp only [minusL, List.length_cons]; split <;> omega
theorem wholeL_le (l : List UInt8) : wholeL l ≤ l.length := by
  cases l with
  | nil => simp [wholeL]
  | cons b t =>
    have := runL_le (b :: t)
    simp only [wholeL]
    split
    · simp
    · exact this
theorem numeralL_le (l : List UInt8) : (numeralL l).1 ≤ l.length := by
  unfold numeralL
  split
  · simp
  · have h1 := minusL_le l
    have h2 := wholeL_le (l.drop (minusL l))
    have h3 := fracL_le (l.drop (minusL l + wholeL (l.drop (minusL l))))
    have h4 := expoL_le (l.drop (minusL l + wholeL (l.drop (minusL l)) + fracL (l.drop (minusL l + wholeL (l.drop (minusL l))))))
    simp only [List.length_drop] at *
    omega
theorem numberL_le (l : List UInt8) : (numberL l).1 ≤ l.length := by
  have := numeralL_le l
  unfold numberL
  split
  · simp
  · split
    · simp
    · exact this
theorem wordN_le (l : List UInt8) : wordN l ≤ l.length := by
  cases l with
  | nil => simp [wordN]
  | cons b t =>
    have := takeWhile_le nameU t
    simp only [wordN, List.length_cons]
    split <;> omega
theorem markN_le (l : List UInt8) : markN l ≤ l.length := by
  cases l with
  | nil => simp [markN]
  | cons b t =>
    simp only [markN]
    split
    · rename_i h; have := pre_len h; simpa using this
    · simp only [List.length_cons]; split <;> omega
theorem unitAt_len {l : List UInt8} {u : Int} (h : unitAt l = some u) : 6 ≤ l.length := by
  unfold unitAt at h
  split at h
  · simp
  · cases h
theorem hexI_bd (b : UInt8) : 0 ≤ hexI b ∧ hexI b ≤ 16 := by
  unfold hexI
  split
  · omega
  · split
    · omega
    · split <;> omega
theorem hexB_bd {b : UInt8} (h : hexB b = true) : 0 ≤ hexI b ∧ hexI b ≤ 15 := by
  have := hexI_bd b
  unfold hexB at h
  simp at h
  omega
theorem unitAt_bd {l : List UInt8} {u : Int} (h : unitAt l = some u) : 0 ≤ u ∧ u ≤ 65535 := by
  unfold unitAt at h
  split at h
  · rename_i x y a b c d r
    split at h
    · rename_i hc
      simp only [Bool.and_eq_true] at hc
      obtain ⟨⟨⟨⟨_, ha⟩, hb⟩, hc⟩, hd⟩ := hc
      have := hexB_bd ha; have := hexB_bd hb; have := hexB_bd hc; have := hexB_bd hd
      injection h with h
      unfold hexV at h
      omega
    · cases h
  · cases h
theorem hexRunF_enough : ∀ (n m : Nat) (l : List UInt8), l.length ≤ n → l.length ≤ m → hexRunF n l = hexRunF m l := by
  intro n
  induction n with
  | zero =>
    intro m l h _
    have : l = [] := List.eq_nil_of_length_eq_zero (by omega)
    subst this
    cases m <;> rfl
  | succ n ih =>
    intro m l hn hm
    cases m with
    | zero =>
      have : l = [] := List.eq_nil_of_length_eq_zero (by omega)
      subst this
      rfl
    | succ m =>
      simp only [hexRunF]
      cases hu : unitAt l with
      | none => rfl
      | some u =>
        have := unitAt_len hu
        simp only
        rw [ih m _ (by simp only [List.length_drop]; omega) (by simp only [List.length_drop]; omega)]
theorem hexRun_none {l : List UInt8} (h : unitAt l = none) : hexRun l = [] := by
  unfold hexRun
  cases l with
  | nil => rfl
  | cons b t => simp only [List.length_cons, hexRunF, h]
theorem hexRun_some {l : List UInt8} {u : Int} (h : unitAt l = some u) : hexRun l = u :: hexRun (l.drop 6) := by
  have hl := unitAt_len h
  unfold hexRun
  obtain ⟨n, hn⟩ : ∃ n, l.length = n + 1 := ⟨l.length - 1, by omega⟩
  rw [hn]
  simp only [hexRunF, h]
  rw [hexRunF_enough n (l.drop 6).length _ (by simp only [List.length_drop]; omega) (Nat.le_refl _)]
theorem hexRun_len : ∀ (n : Nat) (l : List UInt8), l.length ≤ n → 6 * (hexRun l).length ≤ l.length := by
  intro n
  induction n with
  | zero =>
    intro l h
    have : l = [] := List.eq_nil_of_length_eq_zero (by omega)
    subst this
    simp [hexRun, hexRunF]
  | succ n ih =>
    intro l h
    cases hu : unitAt l with
    | none => rw [hexRun_none hu]; simp
    | some u =>
      have := unitAt_len hu
      have := ih (l.drop 6) (by simp only [List.length_drop]; omega)
      rw [hexRun_some hu]
      simp only [List.length_drop, List.length_cons] at *
      omega
theorem escL_le {l : List UInt8} {p : List UInt8 × Nat} (h : escL l = some p) : 2 ≤ p.2 ∧ p.2 ≤ l.length := by
  unfold escL at h
  have := hexRun_len l.length l (Nat.le_refl _)
  split at h
  · split at h
    · obtain ⟨x, _, rfl⟩ := Option.map_eq_some_iff.1 h
      simp
    · cases h
  · rename_i hn
    obtain ⟨x, _, rfl⟩ := Option.map_eq_some_iff.1 h
    have : (hexRun l).length ≠ 0 := fun e => hn (List.eq_nil_of_length_eq_zero e)
    simp only
    omega
theorem lineF_le : ∀ (n : Nat) (l : List UInt8) (p : List UInt8 × Nat), lineF n l = some p → 1 ≤ p.2 ∧ p.2 ≤ l.length := by
  intro n
  induction n with
  | zero => intro l p h; cases h
  | succ n ih =>
    intro l p h
    cases l with
    | nil => cases h
    | cons b t =>
      simp only [lineF] at h
      split at h
      · injection h with h; subst h; simp
      · split at h
        · cases h
        · split at h
          · split at h
            · cases h
            · rename_i e he
              obtain ⟨q, hq, rfl⟩ := Option.map_eq_some_iff.1 h
              have := ih _ _ hq
              have := escL_le he
              simp only [List.length_drop] at *
              omega
          · obtain ⟨q, hq, rfl⟩ := Option.map_eq_some_iff.1 h
            have := ih _ _ hq
            simp only [List.length_cons] at *
            omega
theorem lineF_enough : ∀ (n m : Nat) (l : List UInt8), l.length < n → l.length < m → lineF n l = lineF m l := by
  intro n
  induction n with
  | zero => intro m l h; omega
  | succ n ih =>
    intro m l hn hm
    cases m with
    | zero => omega
    | succ m =>
      cases l with
      | nil => rfl
      | cons b t =>
        simp only [List.length_cons] at hn hm
        simp only [lineF]
        rw [ih m t (by omega) (by omega)]
        cases he : escL (b :: t) with
        | none => rfl
        | some e =>
          have := escL_le he
          simp only
          rw [ih m _ (by simp only [List.length_drop, List.length_cons]; omega) (by simp only [List.length_drop, List.length_cons]; omega)]
theorem lineL_nil : lineL [] = none := rfl
theorem lineL_cons (b : UInt8) (t : List UInt8) : lineL (b :: t) =
    if b == 34 then some ([], 1) else if b == 10 || b == 13 then none else if b == 92 then
      (match escL (b :: t) with
      | none => none
      | some p => (lineL ((b :: t).drop p.2)).map fun q => (p.1 ++ q.1, p.2 + q.2))
    else (lineL t).map fun q => (b :: q.1, 1 + q.2) := by
  show lineF (t.length + 1 + 1) (b :: t) = _
  simp only [lineF]
  cases he : escL (b :: t) with
  | none => rfl
  | some e =>
    have := escL_le he
    simp only
    rw [lineF_enough (t.length + 1) (((b :: t).drop e.2).length + 1) ((b :: t).drop e.2) (by simp only [List.length_drop, List.length_cons]; omega) (by omega)]
    rfl
theorem rawF_le : ∀ (n : Nat) (l : List UInt8) (p : List UInt8 × Nat), rawF n l = some p → 3 ≤ p.2 ∧ p.2 ≤ l.length ∧ p.1.length + 3 ≤ p.2 := by
  intro n
  induction n with
  | zero => intro l p h; cases h
  | succ n ih =>
    intro l p h
    cases l with
    | nil => cases h
    | cons b t =>
      simp only [rawF] at h
      split at h
      · rename_i hp
        have := pre_len hp
        injection h with h; subst h; simpa using this
      · split at h
        · rename_i hp
          have := pre_len hp
          obtain ⟨q, hq, rfl⟩ := Option.map_eq_some_iff.1 h
          have := ih _ _ hq
          simp only [List.length_drop, List.length_cons, List.length_nil, List.length_append] at *
          omega
        · obtain ⟨q, hq, rfl⟩ := Option.map_eq_some_iff.1 h
          have := ih _ _ hq
          simp only [List.length_cons] at *
          omega
theorem rawF_enough : ∀ (n m : Nat) (l : List UInt8), l.length < n → l.length < m → rawF n l = rawF m l := by
  intro n
  induction n with
  | zero => intro m l h; omega
  | succ n ih =>
    intro m l hn hm
    cases m with
    | zero => omega
    | succ m =>
      cases l with
      | nil => rfl
      | cons b t =>
        simp only [List.length_cons] at hn hm
        simp only [rawF]
        rw [ih m t (by omega) (by omega), ih m ((b :: t).drop 4) (by simp only [List.length_drop, List.length_cons]; omega) (by simp only [List.length_drop, List.length_cons]; omega)]
theorem rawL_nil : rawL [] = none := rfl
theorem rawL_cons (b : UInt8) (t : List UInt8) : rawL (b :: t) =
    if pre [34, 34, 34] (b :: t) then some ([], 3) else if pre [92, 34, 34, 34] (b :: t) then (rawL ((b :: t).drop 4)).map fun q => ([34, 34, 34] ++ q.1, 4 + q.2)
    else (rawL t).map fun q => (b :: q.1, 1 + q.2) := by
  show rawF (t.length + 1 + 1) (b :: t) = _
  simp only [rawF]
  rw [rawF_enough (t.length + 1) (((b :: t).drop 4).length + 1) ((b :: t).drop 4) (by simp only [List.length_drop, List.length_cons]; omega) (by omega)]
  rfl
theorem quoteL_le {l : List UInt8} {p : List UInt8 × Nat} (h : quoteL l = some p) : 1 ≤ p.2 ∧ p.2 ≤ l.length := by
  cases l with
  | nil => cases h
  | cons b t =>
    simp only [quoteL] at h
    split at h
    · obtain ⟨q, hq, rfl⟩ := Option.map_eq_some_iff.1 h
      have := rawF_le _ _ _ hq
      simp only [List.length_drop, List.length_cons] at *
      omega
    · split at h
      · obtain ⟨q, hq, rfl⟩ := Option.map_eq_some_iff.1 h
        have := lineF_le _ _ _ hq
        simp only [List.length_cons] at *
        omega
      · cases h
theorem tokL_le {l : List UInt8} {p : (Int × List UInt8) × Nat} (h : tokL l = some p) : 1 ≤ p.2 ∧ p.2 ≤ l.length := by
  have h1 := markN_le l
  have h2 := wordN_le l
  have h3 := numberL_le l
  unfold tokL at h
  split at h
  · injection h with h; subst h; simp only; omega
  · split at h
    · injection h with h; subst h; simp only; omega
    · split at h
      · injection h with h; subst h; simp only; omega
      · obtain ⟨q, hq, rfl⟩ := Option.map_eq_some_iff.1 h
        exact quoteL_le hq
theorem readF_enough : ∀ (n m : Nat) (l : List UInt8), l.length < n → l.length < m → readF n l = readF m l := by
  intro n
  induction n with
  | zero => intro m l h; omega
  | succ n ih =>
    intro m l hn hm
    cases m with
    | zero => omega
    | succ m =>
      simp only [readF]
      split
      · rename_i hg
        have := gapL_le l
        rw [ih m _ (by simp only [List.length_drop]; omega) (by simp only [List.length_drop]; omega)]
      · split
        · rfl
        · cases ht : tokL l with
          | none => rfl
          | some p =>
            have := tokL_le ht
            simp only
            rw [ih m _ (by simp only [List.length_drop]; omega) (by simp only [List.length_drop]; omega)]
theorem readL_nil : readL [] = some [] := rfl
theorem readL_gap {l : List UInt8} (h : gapL l ≠ 0) : readL l = readL (l.drop (gapL l)) := by
  have := gapL_le l
  show readF (l.length + 1) l = _
  simp only [readF, if_pos h]
  exact readF_enough _ _ _ (by simp only [List.length_drop]; omega) (by omega)
theorem readL_tok {l : List UInt8} {p : (Int × List UInt8) × Nat} (h : gapL l = 0) (hn : l ≠ []) (ht : tokL l = some p) : readL l = (readL (l.drop p.2)).map (p.1 :: ·) := by
  have := tokL_le ht
  show readF (l.length + 1) l = _
  simp only [readF, h, ne_eq, not_true, if_false, if_neg hn, ht]
  rw [readF_enough l.length ((l.drop p.2).length + 1) _ (by simp only [List.length_drop]; omega) (by omega)]
  rfl
theorem readL_none {l : List UInt8} (h : gapL l = 0) (hn : l ≠ []) (ht : tokL l = none) : readL l = none := by
  show readF (l.length + 1) l = _
  simp only [readF, h, ne_eq, not_true, if_false, if_neg hn, ht]
end Go.Proofs.YtnmidlbhkjcimaaDoor
/- Plain mathematics of values: whether a value is good, level by level; how deep it is; its variables. -/
namespace Go.Proofs.YtnmidlbhkjcimaaDoor
def nullL : List UInt8 := [110, 117, 108, 108]
def trueL : List UInt8 := [116, 114, 117, 101]
def falseL : List UInt8 := [102, 97, 108, 115, 101]
def enumB (l : List UInt8) : Bool := nameB l && !(l == nullL) && !(l == trueL) && !(l == falseL)
/-- What digits spell; with a sign. -/
def digN (l : List UInt8) : Nat := l.foldl (fun a b => a * 10 + (b.toNat - 48)) 0
def intN : List UInt8 → Int
  | [] => 0
  | b :: t => if b = 45 then -(digN t : Int) else (digN (b :: t) : Int)
def fits64 (z : Int) : Bool := decide (-9223372036854775808 ≤ z ∧ z ≤ 9223372036854775807)
/-- A number that no Int is. -/
def numB (l : List UInt8) : Bool := kindL l == 4 || (kindL l == 3 && !fits64 (intN l))
/-- A value by itself, without names and what stands within. -/
def soundB (k n : Int) (s : List UInt8) (ll ml : Nat) : Bool :=
  if k = 0 then n == 0 && s.isEmpty && ll == 0 && ml == 0
  else if k = 1 then (n == 0 || n == 1) && s.isEmpty && ll == 0 && ml == 0
  else if k = 2 then s.isEmpty && ll == 0 && ml == 0
  else if k = 3 then n == 0 && numB s && ll == 0 && ml == 0
  else if k = 4 then n == 0 && goodB s && ll == 0 && ml == 0
  else if k = 5 then n == 0 && enumB s && ll == 0 && ml == 0
  else if k = 6 then n == 0 && s.isEmpty && ml == 0
  else if k = 7 then n == 0 && s.isEmpty && ll == 0
  else if k = 8 then n == 0 && nameB s && ll == 0 && ml == 0
  else false
def VL.app : VL → VL → VL
  | .nil, r => r
  | .cons v t, r => .cons v (t.app r)
def VM.vals : VM → VL
  | .nil => .nil
  | .cons _ v t => .cons v t.vals
theorem VL.app_nil : ∀ l : VL, l.app .nil = l
  | .nil => rfl
  | .cons v t => by rw [VL.app, VL.app_nil t]
theorem VL.len_app : ∀ l r : VL, (l.app r).len = l.len + r.len
  | .nil, r => by rw [VL.app, VL.len]; omega
  | .cons v t, r => by rw [VL.app, VL.len, VL.len, VL.len_app t r]; omega
theorem VM.len_vals : ∀ m : VM, m.vals.len = m.len
  | .nil => rfl
  | .cons _ _ t => by rw [VM.vals, VL.len, VM.len, VM.len_vals t]
theorem VM.get_vals : ∀ {m : VM} {j : Nat} {nm : ByteArray} {v : VT}, m.get j = some (nm, v) → m.vals.get j = some v
  | .nil, _, _, _, h => by simp [VM.get] at h
  | .cons x u t, 0, nm, v, h => by
    have : x = nm ∧ u = v := by simpa [VM.get] using h
    rw [VM.vals, VL.get, this.2]
  | .cons x u t, j + 1, nm, v, h => by
    rw [VM.vals, VL.get]; exact VM.get_vals (m := t) h
/-- What stands in a value, by its kind. -/
def VT.kids : VT → VL
  | .mk k _ _ l m => if k = 6 then l else if k = 7 then m.vals else .nil
mutual
/-- Is the value good, with names of which p holds? -/
def fitV (p : List UInt8 → Bool) : VT → Bool
  | .mk k n s l m => soundB k n s.data.toList l.len m.len && fitL p l && fitM p m
def fitL (p : List UInt8 → Bool) : VL → Bool
  | .nil => true
  | .cons v t => fitV p v && fitL p t
def fitM (p : List UInt8 → Bool) : VM → Bool
  | .nil => true
  | .cons nm v t => p nm.data.toList && fitV p v && fitM p t
end
def namesB (p : List UInt8 → Bool) : VM → Bool
  | .nil => true
  | .cons nm _ t => p nm.data.toList && namesB p t
/-- A value by itself, with its names. -/
def checkV (p : List UInt8 → Bool) : VT → Bool
  | .mk k n s l m => soundB k n s.data.toList l.len m.len && namesB p m
theorem fitM_vals (p : List UInt8 → Bool) : ∀ m : VM, fitM p m = (namesB p m && fitL p m.vals)
  | .nil => rfl
  | .cons nm v t => by
    rw [fitM, namesB, VM.vals, fitL, fitM_vals p t]
    cases p nm.data.toList <;> cases fitV p v <;> simp
theorem VL.nil_of_len {l : VL} (h : l.len = 0) : l = .nil := by cases l with
  | nil => rfl
  | cons _ _ => rw [VL.len] at h; omega
theorem VM.nil_of_len {l : VM} (h : l.len = 0) : l = .nil := by cases l with
  | nil => rfl
  | cons _ _ _ => rw [VM.len] at h; omega
theorem sound_l {k n : Int} {s : List UInt8} {ll ml : Nat} (h : soundB k n s ll ml = true) (hk : k ≠ 6) : ll = 0 := by
  unfold soundB at h
  repeat' split at h
  all_goals first | contradiction | (simp only [Bool.and_eq_true, beq_iff_eq] at h; omega)
theorem sound_m {k n : Int} {s : List UInt8} {ll ml : Nat} (h : soundB k n s ll ml = true) (hk : k ≠ 7) : ml = 0 := by
  unfold soundB at h
  repeat' split at h
  all_goals first | contradiction | (simp only [Bool.and_eq_true, beq_iff_eq] at h; omega)
theorem fit_kids (p : List UInt8 → Bool) (v : VT) : fitV p v = (checkV p v && fitL p v.kids) := by
  obtain ⟨k, n, s, l, m⟩ := v
  rw [fitV, checkV, fitM_vals, VT.kids]
  cases hs : soundB k n s.data.toList l.len m.len with
  | false => simp
  | true =>
    by_cases h6 : k = 6
    · have hm := VM.nil_of_len (sound_m hs (by omega))
      subst hm
      rw [if_pos h6]; simp [namesB, VM.vals, fitL]
    · have hl := VL.nil_of_len (sound_l hs h6)
      subst hl
      rw [if_neg h6]
      by_cases h7 : k = 7
      · rw [if_pos h7]; simp [fitL]
      · have hm := VM.nil_of_len (sound_m hs h7)
        subst hm
        rw [if_neg h7]; simp [namesB, VM.vals, fitL]
def checkL (p : List UInt8 → Bool) : VL → Bool
  | .nil => true
  | .cons v t => checkV p v && checkL p t
def kidsL : VL → VL
  | .nil => .nil
  | .cons v t => v.kids.app (kidsL t)
theorem fitL_app (p : List UInt8 → Bool) : ∀ l r : VL, fitL p (l.app r) = (fitL p l && fitL p r)
  | .nil, r => by rw [VL.app, fitL]; simp
  | .cons v t, r => by rw [VL.app, fitL, fitL, fitL_app p t r, Bool.and_assoc]
theorem fit_level (p : List UInt8 → Bool) : ∀ l : VL, fitL p l = (checkL p l && fitL p (kidsL l))
  | .nil => rfl
  | .cons v t => by
    rw [fitL, fit_kids, fit_level p t, checkL, kidsL, fitL_app]
    cases checkV p v <;> cases checkL p t <;> simp
theorem sizeL_app : ∀ l r : VL, sizeL (l.app r) = sizeL l + sizeL r
  | .nil, r => by rw [VL.app, sizeL]; omega
  | .cons v t, r => by rw [VL.app, sizeL, sizeL, sizeL_app t r]; omega
theorem sizeL_vals : ∀ m : VM, sizeL m.vals ≤ sizeM m
  | .nil => by rw [VM.vals, sizeL, sizeM]; omega
  | .cons nm v t => by rw [VM.vals, sizeL, sizeM]; have := sizeL_vals t; omega
theorem size_kids (v : VT) : sizeL v.kids + 1 ≤ sizeV v := by
  obtain ⟨k, n, s, l, m⟩ := v
  rw [VT.kids, sizeV]
  have := sizeL_vals m
  split
  · omega
  · split
    · omega
    · rw [sizeL]; omega
theorem size_level : ∀ l : VL, sizeL (kidsL l) + l.len ≤ sizeL l
  | .nil => by rw [kidsL, sizeL, VL.len]; omega
  | .cons v t => by
    rw [kidsL, sizeL, sizeL_app, VL.len]
    have := size_level t
    have := size_kids v
    omega
theorem len_size : ∀ l : VL, l.len ≤ sizeL l := fun l => by have := size_level l; omega
/-- The first j of a level. -/
def kidsTo : VL → Nat → VL
  | _, 0 => .nil
  | .nil, _ + 1 => .nil
  | .cons v t, j + 1 => v.kids.app (kidsTo t j)
def checkTo (p : List UInt8 → Bool) : VL → Nat → Bool
  | _, 0 => true
  | .nil, _ + 1 => true
  | .cons v t, j + 1 => checkV p v && checkTo p t j
theorem kidsTo_zero (l : VL) : kidsTo l 0 = .nil := by cases l <;> rfl
theorem checkTo_zero (p : List UInt8 → Bool) (l : VL) : checkTo p l 0 = true := by cases l <;> rfl
theorem VL.app_assoc : ∀ a b c : VL, (a.app b).app c = a.app (b.app c)
  | .nil, b, c => rfl
  | .cons v t, b, c => by rw [VL.app, VL.app, VL.app, VL.app_assoc t b c]
theorem kidsTo_next : ∀ {l : VL} {j : Nat} {v : VT}, l.get j = some v → kidsTo l (j + 1) = (kidsTo l j).app v.kids
  | .nil, _, _, h => by simp [VL.get] at h
  | .cons u t, 0, v, h => by
    have : u = v := by simpa [VL.get] using h
    subst this
    show u.kids.app (kidsTo t 0) = VL.nil.app u.kids
    rw [kidsTo_zero, VL.app_nil, VL.app]
  | .cons u t, j + 1, v, h => by
    rw [kidsTo, kidsTo_next (l := t) (j := j) (v := v) h, kidsTo, VL.app_assoc]
theorem checkTo_next (p : List UInt8 → Bool) : ∀ {l : VL} {j : Nat} {v : VT}, l.get j = some v → checkTo p l (j + 1) = (checkTo p l j && checkV p v)
  | .nil, _, _, h => by simp [VL.get] at h
  | .cons u t, 0, v, h => by
    have : u = v := by simpa [VL.get] using h
    subst this
    show (checkV p u && checkTo p t 0) = (true && checkV p u)
    rw [checkTo_zero]; simp
  | .cons u t, j + 1, v, h => by
    rw [checkTo, checkTo_next p (l := t) (j := j) (v := v) h, checkTo, Bool.and_assoc]
theorem kidsTo_all : ∀ l : VL, kidsTo l l.len = kidsL l
  | .nil => rfl
  | .cons v t => by rw [VL.len, kidsTo, kidsTo_all t, kidsL]
theorem checkTo_all (p : List UInt8 → Bool) : ∀ l : VL, checkTo p l l.len = checkL p l
  | .nil => rfl
  | .cons v t => by rw [VL.len, checkTo, checkTo_all p t, checkL]
/-- One that is not good of them makes the level not good. -/
theorem check_no (p : List UInt8 → Bool) : ∀ {l : VL} {j : Nat} {v : VT}, l.get j = some v → checkV p v = false → fitL p l = false
  | .nil, _, _, h, _ => by simp [VL.get] at h
  | .cons u t, 0, v, h, hc => by
    have : u = v := by simpa [VL.get] using h
    rw [fitL, fit_kids, this, hc]; simp
  | .cons u t, j + 1, v, h, hc => by
    rw [fitL, check_no p (l := t) (j := j) h hc]; simp
theorem kidsTo_size : ∀ (l : VL) (j : Nat), sizeL (kidsTo l j) ≤ sizeL l
  | .nil, j => by cases j <;> simp [kidsTo, sizeL]
  | .cons v t, 0 => by rw [kidsTo, sizeL]; omega
  | .cons v t, j + 1 => by
    rw [kidsTo, sizeL_app, sizeL]
    have := kidsTo_size t j
    have := size_kids v
    omega

mutual
/-- How deep. -/
def depV : VT → Nat
  | .mk k _ _ l m => if k = 6 then depL l + 1 else if k = 7 then depM m + 1 else 0
def depL : VL → Nat
  | .nil => 0
  | .cons v t => max (depV v) (depL t)
def depM : VM → Nat
  | .nil => 0
  | .cons _ v t => max (depV v) (depM t)
end
theorem depM_vals : ∀ m : VM, depM m = depL m.vals
  | .nil => rfl
  | .cons _ v t => by rw [depM, VM.vals, depL, depM_vals t]
def depTo : VL → Nat → Nat
  | _, 0 => 0
  | .nil, _ + 1 => 0
  | .cons v t, j + 1 => max (depV v) (depTo t j)
theorem depTo_zero (l : VL) : depTo l 0 = 0 := by cases l <;> rfl
theorem depTo_next : ∀ {l : VL} {j : Nat} {v : VT}, l.get j = some v → depTo l (j + 1) = max (depTo l j) (depV v)
  | .nil, _, _, h => by simp [VL.get] at h
  | .cons u t, 0, v, h => by
    have : u = v := by simpa [VL.get] using h
    subst this
    show max (depV u) (depTo t 0) = max 0 (depV u)
    rw [depTo_zero]; omega
  | .cons u t, j + 1, v, h => by
    rw [depTo, depTo_next (l := t) (j := j) (v := v) h, depTo]; omega
theorem depTo_all : ∀ l : VL, depTo l l.len = depL l
  | .nil => rfl
  | .cons v t => by rw [VL.len, depTo, depTo_all t, depL]
theorem dep_kids (k n : Int) (s : ByteArray) (l : VL) (m : VM) (h : k = 6 ∨ k = 7) : depV (.mk k n s l m) = depL (VT.kids (.mk k n s l m)) + 1 := by
  rw [depV, VT.kids]
  rcases h with h | h
  · rw [if_pos h, if_pos h]
  · rw [if_neg (by omega), if_pos h, if_neg (by omega), if_pos h, depM_vals]
mutual
theorem dep_size : ∀ v : VT, depV v ≤ sizeV v
  | .mk k n s l m => by
    rw [depV, sizeV]
    have := depL_size l
    have := depM_size m
    split
    · omega
    · split <;> omega
theorem depL_size : ∀ l : VL, depL l ≤ sizeL l
  | .nil => by rw [depL]; omega
  | .cons v t => by
    rw [depL, sizeL]
    have := dep_size v
    have := depL_size t
    omega
theorem depM_size : ∀ l : VM, depM l ≤ sizeM l
  | .nil => by rw [depM]; omega
  | .cons nm v t => by
    rw [depM, sizeM]
    have := dep_size v
    have := depM_size t
    omega
end
theorem depL_get : ∀ {l : VL} {j : Nat} {v : VT}, l.get j = some v → depV v ≤ depL l
  | .nil, _, _, h => by simp [VL.get] at h
  | .cons u t, 0, v, h => by
    have : u = v := by simpa [VL.get] using h
    rw [depL, this]; omega
  | .cons u t, j + 1, v, h => by
    rw [depL]; have := depL_get (l := t) h; omega

/- The variables. -/
def hasN (out : List ByteArray) (s : ByteArray) : Bool := out.any fun t => t.data.toList == s.data.toList
theorem hasN_iff {out : List ByteArray} {s : ByteArray} : hasN out s = true ↔ s ∈ out := by
  unfold hasN
  rw [List.any_eq_true]
  constructor
  · rintro ⟨t, h, e⟩
    have : t = s := ByteArray.ext (Array.toList_inj.1 (by simpa using e))
    rwa [← this]
  · intro h
    exact ⟨s, h, by simp⟩
def addN (out : List ByteArray) (s : ByteArray) : List ByteArray := if hasN out s = true then out else out ++ [s]
mutual
def allV : VT → List ByteArray
  | .mk k _ s l m => if k = 8 then [s] else if k = 6 then allL l else if k = 7 then allM m else []
def allL : VL → List ByteArray
  | .nil => []
  | .cons v t => allV v ++ allL t
def allM : VM → List ByteArray
  | .nil => []
  | .cons _ v t => allV v ++ allM t
end
theorem allM_vals : ∀ m : VM, allM m = allL m.vals
  | .nil => rfl
  | .cons _ v t => by rw [allM, VM.vals, allL, allM_vals t]
/-- The variables, behind those that are there. -/
def varsV (v : VT) (out : List ByteArray) : List ByteArray := (allV v).foldl addN out
def varsL (l : VL) (out : List ByteArray) : List ByteArray := (allL l).foldl addN out
theorem all_kids (v : VT) : allV v = (match v with | .mk k _ s _ _ => if k = 8 then [s] else []) ++ allL v.kids := by
  obtain ⟨k, n, s, l, m⟩ := v
  rw [allV, VT.kids]
  by_cases h8 : k = 8
  · rw [if_pos h8, if_neg (by omega), if_neg (by omega)]; simp [h8, allL]
  · rw [if_neg h8]
    simp only [h8, if_false, List.nil_append]
    by_cases h6 : k = 6
    · simp [h6]
    · by_cases h7 : k = 7
      · simp [h7, allM_vals]
      · simp [h6, h7, allL]
def allTo : VL → Nat → List ByteArray
  | _, 0 => []
  | .nil, _ + 1 => []
  | .cons v t, j + 1 => allV v ++ allTo t j
theorem allTo_zero (l : VL) : allTo l 0 = [] := by cases l <;> rfl
theorem allTo_next : ∀ {l : VL} {j : Nat} {v : VT}, l.get j = some v → allTo l (j + 1) = allTo l j ++ allV v
  | .nil, _, _, h => by simp [VL.get] at h
  | .cons u t, 0, v, h => by
    have : u = v := by simpa [VL.get] using h
    subst this
    show allV u ++ allTo t 0 = [] ++ allV u
    rw [allTo_zero]; simp
  | .cons u t, j + 1, v, h => by
    rw [allTo, allTo_next (l := t) (j := j) (v := v) h, allTo, List.append_assoc]
theorem allTo_all : ∀ l : VL, allTo l l.len = allL l
  | .nil => rfl
  | .cons v t => by rw [VL.len, allTo, allTo_all t, allL]
theorem mem_add {out : List ByteArray} {s : ByteArray} : s ∈ addN out s := by
  unfold addN; split
  · exact hasN_iff.1 (by assumption)
  · simp
theorem mem_adds : ∀ {l out : List ByteArray} {s : ByteArray}, s ∈ out → s ∈ l.foldl addN out
  | [], _, _, h => h
  | x :: l, out, s, h => by
    rw [List.foldl_cons]
    refine mem_adds ?_
    unfold addN; split
    · exact h
    · exact List.mem_append_left _ h
/-- What is added of what was added is added. -/
theorem adds_adds : ∀ (l acc out : List ByteArray), (l.foldl addN acc).foldl addN out = l.foldl addN (acc.foldl addN out)
  | [], _, _ => rfl
  | s :: l, acc, out => by
    rw [List.foldl_cons, List.foldl_cons, adds_adds l]
    congr 1
    by_cases h : s ∈ acc
    · have h2 : s ∈ acc.foldl addN out := by
        have : ∀ (l out : List ByteArray), s ∈ l → s ∈ l.foldl addN out := by
          intro l
          induction l with
          | nil => intro _ h; simp at h
          | cons x l ih =>
            intro out h
            rw [List.foldl_cons]
            rcases List.mem_cons.1 h with rfl | h
            · exact mem_adds mem_add
            · exact ih _ h
        exact this _ _ h
      rw [addN, if_pos (hasN_iff.2 h), addN, if_pos (hasN_iff.2 h2)]
    · rw [addN, if_neg (fun e => h (hasN_iff.1 e)), List.foldl_append, List.foldl_cons, List.foldl_nil]
theorem vars_adds (v : VT) (out : List ByteArray) : (varsV v []).foldl addN out = varsV v out := adds_adds _ _ _
theorem varsL_snoc {l : VL} {j : Nat} {v : VT} (h : l.get j = some v) (out : List ByteArray) : (allTo l (j + 1)).foldl addN out = varsV v ((allTo l j).foldl addN out) := by
  rw [allTo_next h, List.foldl_append, varsV]
theorem adds_len : ∀ (l out : List ByteArray), (l.foldl addN out).length ≤ out.length + l.length
  | [], _ => Nat.le_refl _
  | s :: l, out => by
    rw [List.foldl_cons]
    have := adds_len l (addN out s)
    have : (addN out s).length ≤ out.length + 1 := by unfold addN; split <;> simp
    simp only [List.length_cons]; omega
mutual
theorem all_len : ∀ v : VT, (allV v).length ≤ sizeV v
  | .mk k n s l m => by
    rw [allV, sizeV]
    have := allL_len l
    have := allM_len m
    split
    · simp; omega
    · split
      · omega
      · split
        · omega
        · simp
theorem allL_len : ∀ l : VL, (allL l).length ≤ sizeL l
  | .nil => by simp [allL]
  | .cons v t => by
    rw [allL, sizeL, List.length_append]
    have := all_len v
    have := allL_len t
    omega
theorem allM_len : ∀ l : VM, (allM l).length ≤ sizeM l
  | .nil => by simp [allM]
  | .cons nm v t => by
    rw [allM, sizeM, List.length_append]
    have := all_len v
    have := allM_len t
    omega
end
/- The document's own test of all names. -/
mutual
def namedV (p : List UInt8 → Bool) : VT → Bool
  | .mk _ _ _ l m => namedL p l && namedM p m
def namedL (p : List UInt8 → Bool) : VL → Bool
  | .nil => true
  | .cons v t => namedV p v && namedL p t
def namedM (p : List UInt8 → Bool) : VM → Bool
  | .nil => true
  | .cons nm v t => p nm.data.toList && namedV p v && namedM p t
end
mutual
theorem fit_two {p q : List UInt8 → Bool} (h : ∀ l, p l = true → q l = true) : ∀ v : VT, fitV p v = (fitV q v && namedV p v)
  | .mk k n s l m => by
    rw [fitV, fitV, namedV, fitL_two h l, fitM_two h m]
    cases soundB k n s.data.toList l.len m.len <;> cases fitL q l <;> cases namedL p l <;> simp
theorem fitL_two {p q : List UInt8 → Bool} (h : ∀ l, p l = true → q l = true) : ∀ l : VL, fitL p l = (fitL q l && namedL p l)
  | .nil => rfl
  | .cons v t => by
    rw [fitL, fitL, namedL, fit_two h v, fitL_two h t]
    cases fitV q v <;> cases namedV p v <;> simp
theorem fitM_two {p q : List UInt8 → Bool} (h : ∀ l, p l = true → q l = true) : ∀ l : VM, fitM p l = (fitM q l && namedM p l)
  | .nil => rfl
  | .cons nm v t => by
    rw [fitM, fitM, namedM, fit_two h v, fitM_two h t]
    cases hp : p nm.data.toList with
    | false => simp
    | true => rw [h _ hp]; cases fitV q v <;> cases namedV p v <;> simp
end
end Go.Proofs.YtnmidlbhkjcimaaDoor
/- Plain mathematics of numbers as text: what digits spell, which fit into 64 bits, how strconv reads them. -/
namespace Go.Proofs.YtnmidlbhkjcimaaDoor
/- Digits. -/
theorem digU_bd {b : UInt8} (h : digU b = true) : 48 ≤ b.toNat ∧ b.toNat ≤ 57 := by
  unfold digU digB at h
  have := of_decide_eq_true h
  omega
theorem digU_of {b : UInt8} (h : 48 ≤ b.toNat ∧ b.toNat ≤ 57) : digU b = true := by
  unfold digU digB
  exact decide_eq_true (by omega)
theorem byte_dig {d : Nat} (h : d < 10) : (UInt8.ofNat (48 + d)).toNat = 48 + d := by
  rw [UInt8.toNat_ofNat']; omega
def digA (a : Nat) (l : List UInt8) : Nat := l.foldl (fun a b => a * 10 + (b.toNat - 48)) a
theorem digA_snoc (a : Nat) (l : List UInt8) (b : UInt8) : digA a (l ++ [b]) = digA a l * 10 + (b.toNat - 48) := by
  unfold digA; rw [List.foldl_append]; rfl
theorem digA_mono : ∀ (l : List UInt8) (a : Nat), a ≤ digA a l
  | [], a => Nat.le_refl _
  | b :: l, a => by
    show a ≤ digA (a * 10 + (b.toNat - 48)) l
    have := digA_mono l (a * 10 + (b.toNat - 48))
    omega
theorem dec_props (u : Nat) : (Lib.decDigits u).all digU = true ∧ digN (Lib.decDigits u) = u ∧ Lib.decDigits u ≠ [] ∧ ((Lib.decDigits u).head? = some 48 → u = 0) := by
  induction u using Nat.strongRecOn with
  | ind u ih =>
    rw [Lib.decDigits]
    split
    · rename_i h
      have hb := byte_dig h
      refine ⟨by rw [List.all_cons, digU_of (by omega), List.all_nil]; rfl, ?_, by simp, ?_⟩
      · show 0 * 10 + ((UInt8.ofNat (48 + u)).toNat - 48) = u
        omega
      · intro e
        have e : UInt8.ofNat (48 + u) = 48 := by simpa using e
        have := congrArg UInt8.toNat e
        rw [hb] at this
        have h48 : (48 : UInt8).toNat = 48 := rfl
        omega
    · rename_i h
      obtain ⟨h1, h2, h3, h4⟩ := ih (u / 10) (by omega)
      have hb := byte_dig (d := u % 10) (by omega)
      refine ⟨?_, ?_, by simp, ?_⟩
      · rw [List.all_append, h1, List.all_cons, digU_of (by omega), List.all_nil]; rfl
      · show digA 0 _ = u
        rw [digA_snoc]
        have : digA 0 (Lib.decDigits (u / 10)) = u / 10 := h2
        rw [this, hb]; omega
      · intro e
        have e' : (Lib.decDigits (u / 10)).head? = some 48 := by
          cases hd : Lib.decDigits (u / 10) with
          | nil => exact absurd hd h3
          | cons x t => rw [hd] at e; simpa using e
        have := h4 e'
        omega
theorem minus_toNat : (45 : UInt8).toNat = 45 := rfl
theorem dig_not_minus {b : UInt8} (h : digU b = true) : b ≠ 45 := by
  intro e; subst e; have := digU_bd h; rw [minus_toNat] at this; omega
theorem int_digits {l : List UInt8} (h : l.all digU = true) : intN l = (digN l : Int) := by
  cases l with
  | nil => rfl
  | cons b t =>
    rw [List.all_cons, Bool.and_eq_true] at h
    show (if b = 45 then -(digN t : Int) else (digN (b :: t) : Int)) = _
    rw [if_neg (dig_not_minus h.1)]
theorem int_minus (l : List UInt8) : intN (45 :: l) = -(digN l : Int) := by
  show (if (45 : UInt8) = 45 then -(digN l : Int) else (digN (45 :: l) : Int)) = _
  rw [if_pos rfl]
theorem int_itoa (n : Int) : intN (Lib.itoa n) = n := by
  unfold Lib.itoa
  split
  · rw [int_minus, (dec_props _).2.1]; omega
  · rw [int_digits (dec_props _).1, (dec_props _).2.1]; omega
theorem itoa_inj {n m : Int} (h : Lib.itoa n = Lib.itoa m) : n = m := by rw [← int_itoa n, ← int_itoa m, h]
/- Numbers of digits alone. -/
theorem run_all {l : List UInt8} (h : l.all digU = true) : runL l = l.length := by
  induction l with
  | nil => rfl
  | cons b t ih =>
    rw [List.all_cons, Bool.and_eq_true] at h
    unfold runL at ih ⊢
    rw [List.takeWhile_cons, if_pos h.1, List.length_cons, List.length_cons, ih h.2]
theorem all_run {l : List UInt8} (h : runL l = l.length) : l.all digU = true := by
  induction l with
  | nil => rfl
  | cons b t ih =>
    unfold runL at ih h
    rw [List.takeWhile_cons] at h
    split at h
    · rename_i hb
      rw [List.all_cons, hb, ih (by simpa using h)]; rfl
    · simp at h
theorem whole_digits {l : List UInt8} (h : l.all digU = true) (h0 : l.head? = some 48 → l.length = 1) : wholeL l = l.length := by
  cases l with
  | nil => rfl
  | cons b t =>
    show (if (b == 48) = true then 1 else runL (b :: t)) = _
    by_cases hb : b = 48
    · subst hb
      have := h0 rfl
      simp [this]
    · rw [if_neg (by simpa using hb), run_all h]
theorem kind_of {l : List UInt8} {m : Nat} (hm : minusL l = m) (h : (l.drop m).all digU = true) (h1 : l.drop m ≠ []) (h0 : (l.drop m).head? = some 48 → (l.drop m).length = 1) : kindL l = 3 := by
  have hw := whole_digits h h0
  have hlen : 0 < (l.drop m).length := List.length_pos_iff.2 h1
  have hml : m + (l.drop m).length = l.length := by rw [List.length_drop] at hlen ⊢; omega
  have hd : l.drop (m + (l.drop m).length) = [] := by rw [hml]; simp
  have hn : numeralL l = (l.length, 3) := by
    unfold numeralL
    rw [hm, hw, if_neg (by omega), hd]
    have hf : fracL [] = 0 := rfl
    have hx : expoL [] = 0 := rfl
    rw [hf, Nat.add_zero, hd, hx, Nat.add_zero, hml]
    simp
  have hN : numberL l = (l.length, 3) := by
    unfold numberL
    rw [hn]
    simp only [List.drop_length, behindB]
    rw [if_neg (by omega), if_neg (by simp)]
  unfold kindL
  rw [hN, if_neg (by simp)]
theorem kind_itoa (n : Int) : kindL (Lib.itoa n) = 3 := by
  unfold Lib.itoa
  split
  · obtain ⟨h1, h2, h3, h4⟩ := dec_props n.natAbs
    refine kind_of (m := 1) (by simp [minusL]) h1 h3 (fun e => ?_)
    have := h4 e
    omega
  · obtain ⟨h1, h2, h3, h4⟩ := dec_props n.toNat
    refine kind_of (m := 0) ?_ h1 h3 (fun e => ?_)
    · cases hd : Lib.decDigits n.toNat with
      | nil => rfl
      | cons b t =>
        rw [hd, List.all_cons, Bool.and_eq_true] at h1
        show (if (b == 45) = true then 1 else 0) = 0
        rw [if_neg (by simpa using dig_not_minus h1.1)]
    · have := h4 e
      rw [List.drop_zero, this, Lib.decDigits]
      simp
/-- What a number of digits alone is. -/
theorem kind_digits {l : List UInt8} (h : kindL l = 3) : ∃ m, minusL l = m ∧ (l.drop m).all digU = true ∧ l.drop m ≠ [] := by
  unfold kindL at h
  split at h
  · omega
  · rename_i hlt
    unfold numberL at h hlt
    split at h
    · simp at h
    · rename_i h0
      rw [if_neg h0] at hlt
      split at h
      · simp at h
      · rename_i hb
        rw [if_neg hb] at hlt
        refine ⟨minusL l, rfl, ?_⟩
        by_cases hw : wholeL (l.drop (minusL l)) = 0
        · exact absurd (by unfold numeralL; rw [if_pos hw]) h0
        · unfold numeralL at h hlt
          rw [if_neg hw] at h hlt
          simp only at h hlt
          split at h
          · rename_i hfx
            obtain ⟨hf1, hf2⟩ := hfx
            rw [hf1, Nat.add_zero] at hf2
            rw [hf1, Nat.add_zero, hf2, Nat.add_zero] at hlt
            have hwl := wholeL_le (l.drop (minusL l))
            rw [List.length_drop] at hwl
            have hwe : wholeL (l.drop (minusL l)) = (l.drop (minusL l)).length := by rw [List.length_drop]; omega
            generalize l.drop (minusL l) = r at hw hwe
            cases r with
            | nil => exact absurd rfl hw
            | cons b t =>
              refine ⟨?_, by simp⟩
              by_cases hb : b = 48
              · subst hb
                have : wholeL ((48 : UInt8) :: t) = 1 := rfl
                rw [this] at hwe
                have ht : t = [] := List.eq_nil_of_length_eq_zero (by rw [List.length_cons] at hwe; omega)
                subst ht; rfl
              · have : wholeL (b :: t) = runL (b :: t) := by
                  show (if (b == 48) = true then 1 else runL (b :: t)) = _
                  rw [if_neg (by simpa using hb)]
                exact all_run (by rw [← this, hwe])
          · simp at h
/-- strconv's reading of such digits. -/
theorem parseM (l : List UInt8) : ∀ (a : Nat), a ≤ 18446744073709551615 → l.all digU = true → Lib.parseUintM 18446744073709551615 a l = if digA a l ≤ 18446744073709551615 then .ok (digA a l) else .range := by
  induction l with
  | nil => intro a ha _; show Lib.NumEnd.ok a = _; rw [show digA a [] = a from rfl, if_pos ha]
  | cons b t ih =>
    intro a ha h
    rw [List.all_cons, Bool.and_eq_true] at h
    have hd := digU_bd h.1
    have hm : digA a (b :: t) = digA (a * 10 + (b.toNat - 48)) t := rfl
    have hmono := digA_mono t (a * 10 + (b.toNat - 48))
    unfold Lib.parseUintM
    rw [if_pos hd, hm]
    split
    · rw [if_neg (by omega)]
    · split
      · rw [if_neg (by omega)]
      · exact ih _ (by omega) h.2
theorem parse_cons (c : UInt8) (r : List UInt8) : Lib.parseIntB 64 (c :: r) = (match Lib.parseUintB 64 (if c.toNat = 43 ∨ c.toNat = 45 then r else c :: r) with
    | Lib.NumEnd.syntax => Lib.NumEnd.syntax
    | .range => .range
    | .ok u => if ¬ c.toNat = 45 ∧ 2 ^ (64 - 1) ≤ u then .range else if c.toNat = 45 ∧ 2 ^ (64 - 1) < u then .range else .ok (if c.toNat = 45 then -(u : Int) else u)) := rfl
theorem parse_mag {r : List UInt8} (hn : r ≠ []) (hd : r.all digU = true) : Lib.parseUintB 64 r = if digA 0 r ≤ 18446744073709551615 then .ok (digA 0 r) else .range := by
  unfold Lib.parseUintB
  rw [if_neg hn]
  exact parseM r 0 (by omega) hd
theorem parse_int {l : List UInt8} (h : kindL l = 3) : Lib.parseIntB 64 l = if fits64 (intN l) = true then .ok (intN l) else .range := by
  obtain ⟨m, hm, hd, hn⟩ := kind_digits h
  cases l with
  | nil => rw [List.drop_nil] at hn; exact absurd rfl hn
  | cons c r =>
    by_cases hc : c = 45
    · subst hc
      have : m = 1 := hm.symm
      subst this
      rw [show (45 :: r).drop 1 = r from rfl] at hd hn
      have hi : intN (45 :: r) = -(digA 0 r : Int) := int_minus r
      rw [hi, parse_cons, if_pos (Or.inr minus_toNat), parse_mag hn hd]
      by_cases h1 : digA 0 r ≤ 18446744073709551615
      · rw [if_pos h1]
        simp only [minus_toNat]
        by_cases h2 : 9223372036854775808 < digA 0 r
        · have hf : fits64 (-(digA 0 r : Int)) = false := by unfold fits64; exact decide_eq_false (by omega)
          rw [hf, if_neg (by simp), if_pos ⟨trivial, by omega⟩, if_neg (by simp)]
        · have hf : fits64 (-(digA 0 r : Int)) = true := by unfold fits64; exact decide_eq_true (by omega)
          rw [hf, if_neg (by simp), if_neg (by omega), if_pos trivial, if_pos rfl]
      · have hf : fits64 (-(digA 0 r : Int)) = false := by unfold fits64; exact decide_eq_false (by omega)
        rw [if_neg h1, hf, if_neg (by simp)]
    · have hm0 : m = 0 := by rw [← hm]; show (if (c == 45) = true then 1 else 0) = 0; rw [if_neg (by simpa using hc)]
      subst hm0
      rw [List.drop_zero] at hd
      have hcd : digU c = true := by rw [List.all_cons, Bool.and_eq_true] at hd; exact hd.1
      have hcb := digU_bd hcd
      rw [int_digits hd, parse_cons, if_neg (by omega), parse_mag (by simp) hd]
      have hD : digN (c :: r) = digA 0 (c :: r) := rfl
      rw [hD]
      have hc45 : ¬ c.toNat = 45 := by omega
      by_cases h1 : digA 0 (c :: r) ≤ 18446744073709551615
      · rw [if_pos h1]
        simp only
        by_cases h2 : 9223372036854775808 ≤ digA 0 (c :: r)
        · have hf : fits64 (digA 0 (c :: r) : Int) = false := by unfold fits64; exact decide_eq_false (by omega)
          rw [hf, if_pos ⟨hc45, by omega⟩, if_neg (by simp)]
        · have hf : fits64 (digA 0 (c :: r) : Int) = true := by unfold fits64; exact decide_eq_true (by omega)
          rw [hf, if_neg (by omega), if_neg (by omega), if_pos rfl, if_neg hc45]
      · have hf : fits64 (digA 0 (c :: r) : Int) = false := by unfold fits64; exact decide_eq_false (by omega)
        rw [if_neg h1, hf, if_neg (by simp)]
end Go.Proofs.YtnmidlbhkjcimaaDoor
/- Plain mathematics: the tokens of a plain value, and that they tell the value. -/
namespace Go.Proofs.YtnmidlbhkjcimaaDoor
/- The tokens of a plain value. -/
def nullT : ByteArray := ⟨#[110, 117, 108, 108]⟩
def trueT : ByteArray := ⟨#[116, 114, 117, 101]⟩
def falseT : ByteArray := ⟨#[102, 97, 108, 115, 101]⟩
def openT : ByteArray := ⟨#[91]⟩
def shutT : ByteArray := ⟨#[93]⟩
def openM : ByteArray := ⟨#[123]⟩
def shutM : ByteArray := ⟨#[125]⟩
def colonT : ByteArray := ⟨#[58]⟩
def dollarT : ByteArray := ⟨#[36]⟩
def itoaT (n : Int) : ByteArray := ⟨(Lib.itoa n).toArray⟩
mutual
def vtok : VT → List (Int × ByteArray)
  | .mk k n s l m =>
    if k = 0 then [(2, nullT)] else if k = 1 then [(2, if n = 1 then trueT else falseT)] else if k = 2 then [(3, itoaT n)]
    else if k = 3 then [(kindL s.data.toList, s)] else if k = 4 then [(5, s)] else if k = 5 then [(2, s)]
    else if k = 6 then (1, openT) :: (vtokL l ++ [(1, shutT)]) else if k = 7 then (1, openM) :: (vtokM m ++ [(1, shutM)])
    else if k = 8 then [(1, dollarT), (2, s)] else []
def vtokL : VL → List (Int × ByteArray)
  | .nil => []
  | .cons v t => vtok v ++ vtokL t
def vtokM : VM → List (Int × ByteArray)
  | .nil => []
  | .cons nm v t => (2, nm) :: (1, colonT) :: (vtok v ++ vtokM t)
end
mutual
/-- The numbers are of 64 bits. -/
def RngV : VT → Prop
  | .mk _ n _ l m => (-9223372036854775808 ≤ n ∧ n ≤ 9223372036854775807) ∧ RngL l ∧ RngM m
def RngL : VL → Prop
  | .nil => True
  | .cons v t => RngV v ∧ RngL t
def RngM : VM → Prop
  | .nil => True
  | .cons _ v t => RngV v ∧ RngM t
end
/-- The kind of the value that begins with this token; 9: none. -/
def cls (t : Int × ByteArray) : Int :=
  if t.1 = 1 then (if t.2.data.toList = [91] then 6 else if t.2.data.toList = [123] then 7 else if t.2.data.toList = [36] then 8 else 9)
  else if t.1 = 2 then (if t.2.data.toList = nullL then 0 else if t.2.data.toList = trueL ∨ t.2.data.toList = falseL then 1 else 5)
  else if t.1 = 3 then (if fits64 (intN t.2.data.toList) = true then 2 else 3)
  else if t.1 = 4 then 3 else 4
theorem ba_ext {a b : ByteArray} (h : a.data.toList = b.data.toList) : a = b := ByteArray.ext (Array.toList_inj.1 h)
theorem sound_kind {k n : Int} {s : List UInt8} {ll ml : Nat} (h : soundB k n s ll ml = true) : k = 0 ∨ k = 1 ∨ k = 2 ∨ k = 3 ∨ k = 4 ∨ k = 5 ∨ k = 6 ∨ k = 7 ∨ k = 8 := by
  unfold soundB at h
  repeat' split at h
  all_goals first | contradiction | omega
theorem sound0 {n : Int} {s : List UInt8} {ll ml : Nat} (h : soundB 0 n s ll ml = true) : n = 0 ∧ s = [] ∧ ll = 0 ∧ ml = 0 := by
  simpa [soundB, and_assoc] using h
theorem sound1 {n : Int} {s : List UInt8} {ll ml : Nat} (h : soundB 1 n s ll ml = true) : (n = 0 ∨ n = 1) ∧ s = [] ∧ ll = 0 ∧ ml = 0 := by
  simpa [soundB, and_assoc] using h
theorem sound2 {n : Int} {s : List UInt8} {ll ml : Nat} (h : soundB 2 n s ll ml = true) : s = [] ∧ ll = 0 ∧ ml = 0 := by
  simpa [soundB, and_assoc] using h
theorem sound3 {n : Int} {s : List UInt8} {ll ml : Nat} (h : soundB 3 n s ll ml = true) : n = 0 ∧ numB s = true ∧ ll = 0 ∧ ml = 0 := by
  simpa [soundB, and_assoc] using h
theorem sound4 {n : Int} {s : List UInt8} {ll ml : Nat} (h : soundB 4 n s ll ml = true) : n = 0 ∧ goodB s = true ∧ ll = 0 ∧ ml = 0 := by
  rw [soundB, if_neg (by omega), if_neg (by omega), if_neg (by omega), if_neg (by omega), if_pos rfl] at h
  simpa only [Bool.and_eq_true, beq_iff_eq, and_assoc] using h
theorem sound5 {n : Int} {s : List UInt8} {ll ml : Nat} (h : soundB 5 n s ll ml = true) : n = 0 ∧ enumB s = true ∧ ll = 0 ∧ ml = 0 := by
  simpa [soundB, and_assoc] using h
theorem sound6 {n : Int} {s : List UInt8} {ll ml : Nat} (h : soundB 6 n s ll ml = true) : n = 0 ∧ s = [] ∧ ml = 0 := by
  simpa [soundB, and_assoc] using h
theorem sound7 {n : Int} {s : List UInt8} {ll ml : Nat} (h : soundB 7 n s ll ml = true) : n = 0 ∧ s = [] ∧ ll = 0 := by
  simpa [soundB, and_assoc] using h
theorem sound8 {n : Int} {s : List UInt8} {ll ml : Nat} (h : soundB 8 n s ll ml = true) : n = 0 ∧ nameB s = true ∧ ll = 0 ∧ ml = 0 := by
  rw [soundB, if_neg (by omega), if_neg (by omega), if_neg (by omega), if_neg (by omega), if_neg (by omega), if_neg (by omega), if_neg (by omega), if_neg (by omega), if_pos rfl] at h
  simpa only [Bool.and_eq_true, beq_iff_eq, and_assoc] using h
theorem vtok0 (n : Int) (s : ByteArray) (l : VL) (m : VM) : vtok (.mk 0 n s l m) = [(2, nullT)] := by rw [vtok, if_pos rfl]
theorem vtok1 (n : Int) (s : ByteArray) (l : VL) (m : VM) : vtok (.mk 1 n s l m) = [(2, if n = 1 then trueT else falseT)] := by rw [vtok, if_neg (by omega), if_pos rfl]
theorem vtok2 (n : Int) (s : ByteArray) (l : VL) (m : VM) : vtok (.mk 2 n s l m) = [(3, itoaT n)] := by rw [vtok, if_neg (by omega), if_neg (by omega), if_pos rfl]
theorem vtok3 (n : Int) (s : ByteArray) (l : VL) (m : VM) : vtok (.mk 3 n s l m) = [(kindL s.data.toList, s)] := by rw [vtok, if_neg (by omega), if_neg (by omega), if_neg (by omega), if_pos rfl]
theorem vtok4 (n : Int) (s : ByteArray) (l : VL) (m : VM) : vtok (.mk 4 n s l m) = [(5, s)] := by rw [vtok, if_neg (by omega), if_neg (by omega), if_neg (by omega), if_neg (by omega), if_pos rfl]
theorem vtok5 (n : Int) (s : ByteArray) (l : VL) (m : VM) : vtok (.mk 5 n s l m) = [(2, s)] := by rw [vtok, if_neg (by omega), if_neg (by omega), if_neg (by omega), if_neg (by omega), if_neg (by omega), if_pos rfl]
theorem vtok6 (n : Int) (s : ByteArray) (l : VL) (m : VM) : vtok (.mk 6 n s l m) = (1, openT) :: (vtokL l ++ [(1, shutT)]) := by rw [vtok, if_neg (by omega), if_neg (by omega), if_neg (by omega), if_neg (by omega), if_neg (by omega), if_neg (by omega), if_pos rfl]
theorem vtok7 (n : Int) (s : ByteArray) (l : VL) (m : VM) : vtok (.mk 7 n s l m) = (1, openM) :: (vtokM m ++ [(1, shutM)]) := by rw [vtok, if_neg (by omega), if_neg (by omega), if_neg (by omega), if_neg (by omega), if_neg (by omega), if_neg (by omega), if_neg (by omega), if_pos rfl]
theorem vtok8 (n : Int) (s : ByteArray) (l : VL) (m : VM) : vtok (.mk 8 n s l m) = [(1, dollarT), (2, s)] := by rw [vtok, if_neg (by omega), if_neg (by omega), if_neg (by omega), if_neg (by omega), if_neg (by omega), if_neg (by omega), if_neg (by omega), if_neg (by omega), if_pos rfl]
theorem num_cases {l : List UInt8} (h : numB l = true) : kindL l = 4 ∨ kindL l = 3 ∧ fits64 (intN l) = false := by
  simpa [numB] using h
theorem enum_cases {l : List UInt8} (h : enumB l = true) : nameB l = true ∧ l ≠ nullL ∧ l ≠ trueL ∧ l ≠ falseL := by
  simpa [enumB, and_assoc] using h
theorem fits_of {n : Int} (h : -9223372036854775808 ≤ n ∧ n ≤ 9223372036854775807) : fits64 n = true := decide_eq_true h
/-- What a value's first token tells. -/
theorem head_cls (p : List UInt8 → Bool) (k n : Int) (s : ByteArray) (l : VL) (m : VM) (hf : fitV p (.mk k n s l m) = true) (hr : RngV (.mk k n s l m)) : (0 ≤ k ∧ k ≤ 8) ∧ ∃ t r, vtok (.mk k n s l m) = t :: r ∧ cls t = k := by
  rw [fitV, Bool.and_eq_true, Bool.and_eq_true] at hf
  have hs := hf.1.1
  unfold RngV at hr
  rcases sound_kind hs with rfl | rfl | rfl | rfl | rfl | rfl | rfl | rfl | rfl
  · exact ⟨by omega, _, _, vtok0 _ _ _ _, rfl⟩
  · refine ⟨by omega, _, _, vtok1 _ _ _ _, ?_⟩
    rcases (sound1 hs).1 with h | h
    · rw [h]; rfl
    · rw [h]; rfl
  · refine ⟨by omega, _, _, vtok2 _ _ _ _, ?_⟩
    show (if fits64 (intN (itoaT n).data.toList) = true then (2 : Int) else 3) = 2
    have : (itoaT n).data.toList = Lib.itoa n := by simp [itoaT]
    rw [this, int_itoa, if_pos (fits_of hr.1)]
  · refine ⟨by omega, _, _, vtok3 _ _ _ _, ?_⟩
    rcases num_cases (sound3 hs).2.1 with h | ⟨h, h'⟩
    · rw [h]; rfl
    · rw [h]
      show (if fits64 (intN s.data.toList) = true then (2 : Int) else 3) = 3
      rw [h', if_neg (by simp)]
  · exact ⟨by omega, _, _, vtok4 _ _ _ _, rfl⟩
  · refine ⟨by omega, _, _, vtok5 _ _ _ _, ?_⟩
    obtain ⟨_, h1, h2, h3⟩ := enum_cases (sound5 hs).2.1
    show (if s.data.toList = nullL then (0 : Int) else if s.data.toList = trueL ∨ s.data.toList = falseL then 1 else 5) = 5
    rw [if_neg h1, if_neg (by rintro (h | h) <;> contradiction)]
  · exact ⟨by omega, _, _, vtok6 _ _ _ _, rfl⟩
  · exact ⟨by omega, _, _, vtok7 _ _ _ _, rfl⟩
  · exact ⟨by omega, _, _, vtok8 _ _ _ _, rfl⟩
theorem empty_of {s : ByteArray} (h : s.data.toList = []) : s = ⟨#[]⟩ := ba_ext (by rw [h])
mutual
theorem tok_inj (p : List UInt8 → Bool) : ∀ (u v : VT) (x y : List (Int × ByteArray)), fitV p u = true → RngV u → fitV p v = true → RngV v → vtok u ++ x = vtok v ++ y → u = v ∧ x = y
  | .mk k n s l m, .mk k' n' s' l' m', x, y, hu, ru, hv, rv, e => by
    obtain ⟨hk, t, r, ht, hc⟩ := head_cls p k n s l m hu ru
    obtain ⟨hk', t', r', ht', hc'⟩ := head_cls p k' n' s' l' m' hv rv
    have hkk : k = k' := by
      rw [ht, ht', List.cons_append, List.cons_append] at e
      have := (List.cons.inj e).1
      rw [← hc, ← hc', this]
    subst hkk
    clear ht ht' hc hc' hk hk'
    rw [fitV, Bool.and_eq_true, Bool.and_eq_true] at hu hv
    obtain ⟨⟨hs, hl⟩, hm⟩ := hu
    obtain ⟨⟨hs', hl'⟩, hm'⟩ := hv
    unfold RngV at ru rv
    rcases sound_kind hs with rfl | rfl | rfl | rfl | rfl | rfl | rfl | rfl | rfl
    · obtain ⟨rfl, h2, h3, h4⟩ := sound0 hs
      obtain ⟨rfl, g2, g3, g4⟩ := sound0 hs'
      rw [vtok0, vtok0] at e
      rw [VL.nil_of_len h3, VL.nil_of_len g3, VM.nil_of_len h4, VM.nil_of_len g4, empty_of h2, empty_of g2]
      exact ⟨rfl, by simpa using e⟩
    · obtain ⟨h1, h2, h3, h4⟩ := sound1 hs
      obtain ⟨g1, g2, g3, g4⟩ := sound1 hs'
      rw [vtok1, vtok1] at e
      have e := List.cons.inj e
      have hn : n = n' := by
        have he := congrArg (fun z : Int × ByteArray => z.2.data.toList) e.1
        rcases h1 with rfl | rfl <;> rcases g1 with rfl | rfl
        · rfl
        · exact absurd he (by decide)
        · exact absurd he (by decide)
        · rfl
      rw [VL.nil_of_len h3, VL.nil_of_len g3, VM.nil_of_len h4, VM.nil_of_len g4, empty_of h2, empty_of g2, hn]
      exact ⟨rfl, by simpa using e.2⟩
    · obtain ⟨h2, h3, h4⟩ := sound2 hs
      obtain ⟨g2, g3, g4⟩ := sound2 hs'
      rw [vtok2, vtok2] at e
      have e := List.cons.inj e
      have hn : n = n' := by
        have he := congrArg (fun z : Int × ByteArray => z.2.data.toList) e.1
        have he : Lib.itoa n = Lib.itoa n' := by simpa [itoaT] using he
        exact itoa_inj he
      rw [VL.nil_of_len h3, VL.nil_of_len g3, VM.nil_of_len h4, VM.nil_of_len g4, empty_of h2, empty_of g2, hn]
      exact ⟨rfl, by simpa using e.2⟩
    · obtain ⟨rfl, h2, h3, h4⟩ := sound3 hs
      obtain ⟨rfl, g2, g3, g4⟩ := sound3 hs'
      rw [vtok3, vtok3] at e
      have e := List.cons.inj e
      have hss : s = s' := congrArg (fun z : Int × ByteArray => z.2) e.1
      rw [VL.nil_of_len h3, VL.nil_of_len g3, VM.nil_of_len h4, VM.nil_of_len g4, hss]
      exact ⟨rfl, by simpa using e.2⟩
    · obtain ⟨rfl, h2, h3, h4⟩ := sound4 hs
      obtain ⟨rfl, g2, g3, g4⟩ := sound4 hs'
      rw [vtok4, vtok4] at e
      have e := List.cons.inj e
      have hss : s = s' := congrArg (fun z : Int × ByteArray => z.2) e.1
      rw [VL.nil_of_len h3, VL.nil_of_len g3, VM.nil_of_len h4, VM.nil_of_len g4, hss]
      exact ⟨rfl, by simpa using e.2⟩
    · obtain ⟨rfl, h2, h3, h4⟩ := sound5 hs
      obtain ⟨rfl, g2, g3, g4⟩ := sound5 hs'
      rw [vtok5, vtok5] at e
      have e := List.cons.inj e
      have hss : s = s' := congrArg (fun z : Int × ByteArray => z.2) e.1
      rw [VL.nil_of_len h3, VL.nil_of_len g3, VM.nil_of_len h4, VM.nil_of_len g4, hss]
      exact ⟨rfl, by simpa using e.2⟩
    · obtain ⟨rfl, h2, h4⟩ := sound6 hs
      obtain ⟨rfl, g2, g4⟩ := sound6 hs'
      rw [vtok6, vtok6, List.cons_append, List.cons_append] at e
      have e := (List.cons.inj e).2
      simp only [List.append_assoc, List.cons_append, List.nil_append] at e
      obtain ⟨hll, hxy⟩ := tokL_inj p l l' x y hl ru.2.1 hl' rv.2.1 e
      rw [VM.nil_of_len h4, VM.nil_of_len g4, empty_of h2, empty_of g2, hll]
      exact ⟨rfl, hxy⟩
    · obtain ⟨rfl, h2, h3⟩ := sound7 hs
      obtain ⟨rfl, g2, g3⟩ := sound7 hs'
      rw [vtok7, vtok7, List.cons_append, List.cons_append] at e
      have e := (List.cons.inj e).2
      simp only [List.append_assoc, List.cons_append, List.nil_append] at e
      obtain ⟨hll, hxy⟩ := tokM_inj p m m' x y hm ru.2.2 hm' rv.2.2 e
      rw [VL.nil_of_len h3, VL.nil_of_len g3, empty_of h2, empty_of g2, hll]
      exact ⟨rfl, hxy⟩
    · obtain ⟨rfl, h2, h3, h4⟩ := sound8 hs
      obtain ⟨rfl, g2, g3, g4⟩ := sound8 hs'
      rw [vtok8, vtok8] at e
      have e := List.cons.inj (List.cons.inj e).2
      have hss : s = s' := congrArg (fun z : Int × ByteArray => z.2) e.1
      rw [VL.nil_of_len h3, VL.nil_of_len g3, VM.nil_of_len h4, VM.nil_of_len g4, hss]
      exact ⟨rfl, by simpa using e.2⟩
theorem tokL_inj (p : List UInt8 → Bool) : ∀ (l l' : VL) (x y : List (Int × ByteArray)), fitL p l = true → RngL l → fitL p l' = true → RngL l' → vtokL l ++ (1, shutT) :: x = vtokL l' ++ (1, shutT) :: y → l = l' ∧ x = y
  | .nil, .nil, x, y, _, _, _, _, e => ⟨rfl, (List.cons.inj e).2⟩
  | .nil, .cons (.mk k n s l m) t, x, y, _, _, hv, rv, e => by
    rw [fitL, Bool.and_eq_true] at hv
    unfold RngL at rv
    obtain ⟨hk, t1, r, ht, hc⟩ := head_cls p k n s l m hv.1 rv.1
    rw [vtokL, vtokL, ht] at e
    have := (List.cons.inj e).1
    rw [← this] at hc
    have h9 : cls (1, shutT) = 9 := by decide
    omega
  | .cons (.mk k n s l m) t, .nil, x, y, hu, ru, _, _, e => by
    rw [fitL, Bool.and_eq_true] at hu
    unfold RngL at ru
    obtain ⟨hk, t1, r, ht, hc⟩ := head_cls p k n s l m hu.1 ru.1
    rw [vtokL, vtokL, ht] at e
    have := (List.cons.inj e).1
    rw [this] at hc
    have h9 : cls (1, shutT) = 9 := by decide
    omega
  | .cons u t, .cons u' t', x, y, hu, ru, hv, rv, e => by
    rw [fitL, Bool.and_eq_true] at hu hv
    unfold RngL at ru rv
    rw [vtokL, vtokL, List.append_assoc, List.append_assoc] at e
    obtain ⟨h1, h2⟩ := tok_inj p u u' _ _ hu.1 ru.1 hv.1 rv.1 e
    obtain ⟨h3, h4⟩ := tokL_inj p t t' x y hu.2 ru.2 hv.2 rv.2 h2
    exact ⟨by rw [h1, h3], h4⟩
theorem tokM_inj (p : List UInt8 → Bool) : ∀ (l l' : VM) (x y : List (Int × ByteArray)), fitM p l = true → RngM l → fitM p l' = true → RngM l' → vtokM l ++ (1, shutM) :: x = vtokM l' ++ (1, shutM) :: y → l = l' ∧ x = y
  | .nil, .nil, x, y, _, _, _, _, e => ⟨rfl, (List.cons.inj e).2⟩
  | .nil, .cons nm v t, x, y, _, _, _, _, e => by
    rw [vtokM, vtokM] at e
    exact absurd (congrArg (fun z : Int × ByteArray => z.1) (List.cons.inj e).1) (by show ¬ ((1 : Int) = 2); omega)
  | .cons nm v t, .nil, x, y, _, _, _, _, e => by
    rw [vtokM, vtokM] at e
    exact absurd (congrArg (fun z : Int × ByteArray => z.1) (List.cons.inj e).1) (by show ¬ ((2 : Int) = 1); omega)
  | .cons nm u t, .cons nm' u' t', x, y, hu, ru, hv, rv, e => by
    rw [fitM, Bool.and_eq_true, Bool.and_eq_true] at hu hv
    unfold RngM at ru rv
    rw [vtokM, vtokM, List.cons_append, List.cons_append, List.cons_append, List.cons_append] at e
    have e1 := List.cons.inj e
    have hn : nm = nm' := congrArg (fun z : Int × ByteArray => z.2) e1.1
    have e2 := (List.cons.inj e1.2).2
    rw [List.append_assoc, List.append_assoc] at e2
    obtain ⟨h1, h2⟩ := tok_inj p u u' _ _ hu.1.2 ru.1 hv.1.2 rv.1 e2
    obtain ⟨h3, h4⟩ := tokM_inj p t t' x y hu.2 ru.2 hv.2 rv.2 h2
    exact ⟨by rw [hn, h1, h3], h4⟩
end
theorem tok_same (p : List UInt8 → Bool) {u v : VT} (hu : fitV p u = true) (ru : RngV u) (hv : fitV p v = true) (rv : RngV v) : vtok u = vtok v ↔ u = v :=
  ⟨fun e => (tok_inj p u v [] [] hu ru hv rv (by rw [e])).1, fun e => by rw [e]⟩
end Go.Proofs.YtnmidlbhkjcimaaDoor
