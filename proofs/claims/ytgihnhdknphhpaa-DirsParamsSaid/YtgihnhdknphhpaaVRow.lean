/- Values whose blocks are named by a predicate: for a copy that is being built; rows of values and of members. -/
import Derived.Test.YtgihnhdknphhpaaVSame
import Derived.Laws.AppendOwn
import Derived.Laws.OwnMore
namespace Go.Proofs.Ytgihnhdknphhpaa
open Go.RowKit

mutual
/-- As VAt, the blocks being those of which P speaks. -/
def VP (w : World) (P : Nat → Prop) : VT → Value → Value → Value → Value → Value → Prop
  | .mk k n s l m, c0, c1, c2, c3, c4 => c0 = .int .i64 k ∧ c1 = .int .i64 n ∧ c2 = .string s ∧ s.size ≤ 9223372036854775807 ∧ (∃ A c, c3 = .slice A l.len c ∧ l.len ≤ 9223372036854775807 ∧ LP w P l A 0) ∧ ∃ A c, c4 = .slice A m.len c ∧ m.len ≤ 9223372036854775807 ∧ MP w P m A 0
def LP (w : World) (P : Nat → Prop) : VL → Option Addr → Nat → Prop
  | .nil, _, _ => True
  | .cons v t, A, j => (∃ b o c0 c1 c2 c3 c4, A = some ⟨b, o, none⟩ ∧ P b ∧ Five w b (o + j * 5) c0 c1 c2 c3 c4 ∧ VP w P v c0 c1 c2 c3 c4) ∧ LP w P t A (j + 1)
def MP (w : World) (P : Nat → Prop) : VM → Option Addr → Nat → Prop
  | .nil, _, _ => True
  | .cons nm v t, A, j => (∃ b o c0 c1 c2 c3 c4, A = some ⟨b, o, none⟩ ∧ P b ∧ w.cell? ⟨b, o + j * 6, none⟩ = some (.string nm) ∧ nm.size ≤ 9223372036854775807 ∧ Five w b (o + j * 6 + 1) c0 c1 c2 c3 c4 ∧ VP w P v c0 c1 c2 c3 c4) ∧ MP w P t A (j + 1)
end
theorem Five.heap {w w' : World} {b o : Nat} {c0 c1 c2 c3 c4 : Value} (h : Five w b o c0 c1 c2 c3 c4) (hb : w'.heap[b]? = w.heap[b]?) : Five w' b o c0 c1 c2 c3 c4 :=
  ⟨(World.cell?_of_block (a := ⟨b, _, none⟩) hb).trans h.1, (World.cell?_of_block (a := ⟨b, _, none⟩) hb).trans h.2.1, (World.cell?_of_block (a := ⟨b, _, none⟩) hb).trans h.2.2.1, (World.cell?_of_block (a := ⟨b, _, none⟩) hb).trans h.2.2.2.1, (World.cell?_of_block (a := ⟨b, _, none⟩) hb).trans h.2.2.2.2⟩
mutual
theorem VP.keep {w w' : World} {P P' : Nat → Prop} (hP : ∀ b, P b → P' b ∧ w'.heap[b]? = w.heap[b]?) : ∀ (v : VT) (c0 c1 c2 c3 c4 : Value), VP w P v c0 c1 c2 c3 c4 → VP w' P' v c0 c1 c2 c3 c4
  | .mk k n s l m, c0, c1, c2, c3, c4, h => by
    unfold VP at h ⊢
    obtain ⟨h0, h1, h2, hs, ⟨A, c, h3, g3, h4⟩, A', c', h5, g5, h6⟩ := h
    exact ⟨h0, h1, h2, hs, ⟨A, c, h3, g3, LP.keep hP l A 0 h4⟩, A', c', h5, g5, MP.keep hP m A' 0 h6⟩
theorem LP.keep {w w' : World} {P P' : Nat → Prop} (hP : ∀ b, P b → P' b ∧ w'.heap[b]? = w.heap[b]?) : ∀ (l : VL) (A : Option Addr) (j : Nat), LP w P l A j → LP w' P' l A j
  | .nil, _, _, _ => by unfold LP; trivial
  | .cons v t, A, j, h => by
    unfold LP at h ⊢
    obtain ⟨⟨b, o, c0, c1, c2, c3, c4, hA, hlt, hf, hv⟩, ht⟩ := h
    exact ⟨⟨b, o, c0, c1, c2, c3, c4, hA, (hP b hlt).1, hf.heap (hP b hlt).2, VP.keep hP v _ _ _ _ _ hv⟩, LP.keep hP t A (j + 1) ht⟩
theorem MP.keep {w w' : World} {P P' : Nat → Prop} (hP : ∀ b, P b → P' b ∧ w'.heap[b]? = w.heap[b]?) : ∀ (l : VM) (A : Option Addr) (j : Nat), MP w P l A j → MP w' P' l A j
  | .nil, _, _, _ => by unfold MP; trivial
  | .cons nm v t, A, j, h => by
    unfold MP at h ⊢
    obtain ⟨⟨b, o, c0, c1, c2, c3, c4, hA, hlt, hn, hz, hf, hv⟩, ht⟩ := h
    exact ⟨⟨b, o, c0, c1, c2, c3, c4, hA, (hP b hlt).1, (World.cell?_of_block (a := ⟨b, _, none⟩) (hP b hlt).2).trans hn, hz, hf.heap (hP b hlt).2, VP.keep hP v _ _ _ _ _ hv⟩, MP.keep hP t A (j + 1) ht⟩
end
mutual
theorem VP.at {w : World} {B : Nat} {P : Nat → Prop} (hP : ∀ b, P b → b < B) : ∀ (v : VT) (c0 c1 c2 c3 c4 : Value), VP w P v c0 c1 c2 c3 c4 → VAt w B v c0 c1 c2 c3 c4
  | .mk k n s l m, c0, c1, c2, c3, c4, h => by
    unfold VP at h
    unfold VAt
    obtain ⟨h0, h1, h2, hs, ⟨A, c, h3, g3, h4⟩, A', c', h5, g5, h6⟩ := h
    exact ⟨h0, h1, h2, hs, ⟨A, c, h3, g3, LP.at hP l A 0 h4⟩, A', c', h5, g5, MP.at hP m A' 0 h6⟩
theorem LP.at {w : World} {B : Nat} {P : Nat → Prop} (hP : ∀ b, P b → b < B) : ∀ (l : VL) (A : Option Addr) (j : Nat), LP w P l A j → LAt w B l A j
  | .nil, _, _, _ => by unfold LAt; trivial
  | .cons v t, A, j, h => by
    unfold LP at h
    unfold LAt
    obtain ⟨⟨b, o, c0, c1, c2, c3, c4, hA, hlt, hf, hv⟩, ht⟩ := h
    exact ⟨⟨b, o, c0, c1, c2, c3, c4, hA, hP b hlt, hf, VP.at hP v _ _ _ _ _ hv⟩, LP.at hP t A (j + 1) ht⟩
theorem MP.at {w : World} {B : Nat} {P : Nat → Prop} (hP : ∀ b, P b → b < B) : ∀ (l : VM) (A : Option Addr) (j : Nat), MP w P l A j → MAt w B l A j
  | .nil, _, _, _ => by unfold MAt; trivial
  | .cons nm v t, A, j, h => by
    unfold MP at h
    unfold MAt
    obtain ⟨⟨b, o, c0, c1, c2, c3, c4, hA, hlt, hn, hz, hf, hv⟩, ht⟩ := h
    exact ⟨⟨b, o, c0, c1, c2, c3, c4, hA, hP b hlt, hn, hz, hf, VP.at hP v _ _ _ _ _ hv⟩, MP.at hP t A (j + 1) ht⟩
end
/-- These cells in a row are the list's values. -/
def ValsL (w : World) (P : Nat → Prop) : VL → List Value → Prop
  | .nil, xs => xs = []
  | .cons v t, xs => ∃ c0 c1 c2 c3 c4 ys, xs = c0 :: c1 :: c2 :: c3 :: c4 :: ys ∧ VP w P v c0 c1 c2 c3 c4 ∧ ValsL w P t ys
def ValsM (w : World) (P : Nat → Prop) : VM → List Value → Prop
  | .nil, xs => xs = []
  | .cons nm v t, xs => ∃ c0 c1 c2 c3 c4 ys, xs = .string nm :: c0 :: c1 :: c2 :: c3 :: c4 :: ys ∧ nm.size ≤ 9223372036854775807 ∧ VP w P v c0 c1 c2 c3 c4 ∧ ValsM w P t ys
def VL.snoc : VL → VT → VL
  | .nil, v => .cons v .nil
  | .cons u t, v => .cons u (t.snoc v)
def VM.snoc : VM → ByteArray → VT → VM
  | .nil, nm, v => .cons nm v .nil
  | .cons x u t, nm, v => .cons x u (t.snoc nm v)
def VL.take : VL → Nat → VL
  | _, 0 => .nil
  | .nil, _ + 1 => .nil
  | .cons v t, j + 1 => .cons v (t.take j)
def VM.take : VM → Nat → VM
  | _, 0 => .nil
  | .nil, _ + 1 => .nil
  | .cons nm v t, j + 1 => .cons nm v (t.take j)
theorem VL.take_zero (l : VL) : l.take 0 = .nil := by cases l <;> rfl
theorem VM.take_zero (l : VM) : l.take 0 = .nil := by cases l <;> rfl
theorem VL.take_all : ∀ l : VL, l.take l.len = l
  | .nil => rfl
  | .cons v t => by rw [VL.len, VL.take, VL.take_all t]
theorem VM.take_all : ∀ l : VM, l.take l.len = l
  | .nil => rfl
  | .cons nm v t => by rw [VM.len, VM.take, VM.take_all t]
theorem VL.take_next : ∀ {l : VL} {j : Nat} {v : VT}, l.get j = some v → l.take (j + 1) = (l.take j).snoc v
  | .nil, _, _, h => by simp [VL.get] at h
  | .cons u t, 0, v, h => by
    have : u = v := by simpa [VL.get] using h
    subst this
    show VL.cons u (t.take 0) = VL.cons u .nil
    rw [VL.take_zero]
  | .cons u t, j + 1, v, h => by
    have := VL.take_next (l := t) (j := j) (v := v) h
    rw [VL.take, this, VL.take, VL.snoc]
theorem VM.take_next : ∀ {l : VM} {j : Nat} {nm : ByteArray} {v : VT}, l.get j = some (nm, v) → l.take (j + 1) = (l.take j).snoc nm v
  | .nil, _, _, _, h => by simp [VM.get] at h
  | .cons x u t, 0, nm, v, h => by
    have : x = nm ∧ u = v := by simpa [VM.get] using h
    obtain ⟨rfl, rfl⟩ := this
    show VM.cons x u (t.take 0) = VM.cons x u .nil
    rw [VM.take_zero]
  | .cons x u t, j + 1, nm, v, h => by
    have := VM.take_next (l := t) (j := j) (nm := nm) (v := v) h
    rw [VM.take, this, VM.take, VM.snoc]
theorem ValsL.keep {w w' : World} {P P' : Nat → Prop} (hP : ∀ b, P b → P' b ∧ w'.heap[b]? = w.heap[b]?) : ∀ {l : VL} {xs : List Value}, ValsL w P l xs → ValsL w' P' l xs
  | .nil, _, h => h
  | .cons v t, xs, h => by
    obtain ⟨c0, c1, c2, c3, c4, ys, e, hv, ht⟩ := h
    exact ⟨c0, c1, c2, c3, c4, ys, e, VP.keep hP _ _ _ _ _ _ hv, ValsL.keep hP ht⟩
theorem ValsM.keep {w w' : World} {P P' : Nat → Prop} (hP : ∀ b, P b → P' b ∧ w'.heap[b]? = w.heap[b]?) : ∀ {l : VM} {xs : List Value}, ValsM w P l xs → ValsM w' P' l xs
  | .nil, _, h => h
  | .cons nm v t, xs, h => by
    obtain ⟨c0, c1, c2, c3, c4, ys, e, hn, hv, ht⟩ := h
    exact ⟨c0, c1, c2, c3, c4, ys, e, hn, VP.keep hP _ _ _ _ _ _ hv, ValsM.keep hP ht⟩
theorem ValsL.snoc {w : World} {P : Nat → Prop} {v : VT} {d0 d1 d2 d3 d4 : Value} (hd : VP w P v d0 d1 d2 d3 d4) : ∀ {l : VL} {xs : List Value}, ValsL w P l xs → ValsL w P (l.snoc v) (xs ++ [d0, d1, d2, d3, d4])
  | .nil, xs, h => by
    have : xs = [] := h
    subst this
    exact ⟨d0, d1, d2, d3, d4, [], rfl, hd, rfl⟩
  | .cons u t, xs, h => by
    obtain ⟨c0, c1, c2, c3, c4, ys, rfl, hv, ht⟩ := h
    exact ⟨c0, c1, c2, c3, c4, ys ++ [d0, d1, d2, d3, d4], by simp, hv, ValsL.snoc hd ht⟩
theorem ValsM.snoc {w : World} {P : Nat → Prop} {nm : ByteArray} {v : VT} {d0 d1 d2 d3 d4 : Value} (hn : nm.size ≤ 9223372036854775807) (hd : VP w P v d0 d1 d2 d3 d4) : ∀ {l : VM} {xs : List Value}, ValsM w P l xs → ValsM w P (l.snoc nm v) (xs ++ [.string nm, d0, d1, d2, d3, d4])
  | .nil, xs, h => by
    have : xs = [] := h
    subst this
    exact ⟨d0, d1, d2, d3, d4, [], rfl, hn, hd, rfl⟩
  | .cons x u t, xs, h => by
    obtain ⟨c0, c1, c2, c3, c4, ys, rfl, hx, hv, ht⟩ := h
    exact ⟨c0, c1, c2, c3, c4, ys ++ [.string nm, d0, d1, d2, d3, d4], by simp, hx, hv, ValsM.snoc hn hd ht⟩
theorem LP.of_cells {w : World} {P : Nat → Prop} {g : Nat} (hg : P g) : ∀ {l : VL} {xs : List Value} (i : Nat), ValsL w P l xs → (∀ j u, xs[j]? = some u → w.cell? ⟨g, i * 5 + j, none⟩ = some u) → LP w P l (some ⟨g, 0, none⟩) i
  | .nil, _, _, _, _ => by unfold LP; trivial
  | .cons v t, xs, i, h, hc => by
    obtain ⟨c0, c1, c2, c3, c4, ys, rfl, hv, ht⟩ := h
    unfold LP
    refine ⟨⟨g, 0, c0, c1, c2, c3, c4, rfl, hg, ?_, hv⟩, LP.of_cells hg (i + 1) ht (fun j u hj => ?_)⟩
    · rw [Nat.zero_add]
      exact ⟨hc 0 c0 rfl, hc 1 c1 rfl, hc 2 c2 rfl, hc 3 c3 rfl, hc 4 c4 rfl⟩
    · have := hc (j + 5) u (by simpa using hj)
      rwa [show i * 5 + (j + 5) = (i + 1) * 5 + j by omega] at this
theorem MP.of_cells {w : World} {P : Nat → Prop} {g : Nat} (hg : P g) : ∀ {l : VM} {xs : List Value} (i : Nat), ValsM w P l xs → (∀ j u, xs[j]? = some u → w.cell? ⟨g, i * 6 + j, none⟩ = some u) → MP w P l (some ⟨g, 0, none⟩) i
  | .nil, _, _, _, _ => by unfold MP; trivial
  | .cons nm v t, xs, i, h, hc => by
    obtain ⟨c0, c1, c2, c3, c4, ys, rfl, hn, hv, ht⟩ := h
    unfold MP
    refine ⟨⟨g, 0, c0, c1, c2, c3, c4, rfl, hg, ?_, hn, ?_, hv⟩, MP.of_cells hg (i + 1) ht (fun j u hj => ?_)⟩
    · rw [Nat.zero_add]; exact hc 0 _ rfl
    · rw [Nat.zero_add]
      exact ⟨hc 1 c0 rfl, hc 2 c1 rfl, hc 3 c2 rfl, hc 4 c3 rfl, hc 5 c4 rfl⟩
    · have := hc (j + 6) u (by simpa using hj)
      rwa [show i * 6 + (j + 6) = (i + 1) * 6 + j by omega] at this
/-- A row that is owned, and whose cells are the list's. -/
theorem row_list {w : World} {base : Nat} {V : Value} {P : Nat → Prop} {l : VL} {xs : List Value} (h : w.ownsRow base 28 5 V l.len xs) (hv : ValsL w P l xs) :
    ∃ A c, V = .slice A l.len c ∧ LP w (fun b => P b ∨ V.ownBlock = some b) l A 0 := by
  rcases h.2 with ⟨hV, hn⟩ | ⟨g, c, cur, hV, _⟩
  · refine ⟨none, 0, by rw [hV, hn], ?_⟩
    cases l with
    | nil => unfold LP; trivial
    | cons v t => simp [VL.len] at hn
  · have hg : V.ownBlock = some g := by rw [hV]; rfl
    refine ⟨some ⟨g, 0, none⟩, c, hV, LP.of_cells (.inr hg) 0 (hv.keep (fun b hb => ⟨.inl hb, rfl⟩)) (fun j u hj => ?_)⟩
    have := h.cells hg j u hj
    rwa [add_at, Nat.zero_add, show j = 0 * 5 + j by omega] at this
theorem row_members {w : World} {base : Nat} {V : Value} {P : Nat → Prop} {l : VM} {xs : List Value} (h : w.ownsRow base 57 6 V l.len xs) (hv : ValsM w P l xs) :
    ∃ A c, V = .slice A l.len c ∧ MP w (fun b => P b ∨ V.ownBlock = some b) l A 0 := by
  rcases h.2 with ⟨hV, hn⟩ | ⟨g, c, cur, hV, _⟩
  · refine ⟨none, 0, by rw [hV, hn], ?_⟩
    cases l with
    | nil => unfold MP; trivial
    | cons nm v t => simp [VM.len] at hn
  · have hg : V.ownBlock = some g := by rw [hV]; rfl
    refine ⟨some ⟨g, 0, none⟩, c, hV, MP.of_cells (.inr hg) 0 (hv.keep (fun b hb => ⟨.inl hb, rfl⟩)) (fun j u hj => ?_)⟩
    have := h.cells hg j u hj
    rwa [add_at, Nat.zero_add, show j = 0 * 6 + j by omega] at this
end Go.Proofs.Ytgihnhdknphhpaa
