/- Structs and rows of any kind as plain trees; how they lie in memory. (wip/parse/XTr, cut; the numbers of a type are any.) -/
import Derived.Test.YtgihnhdknphhpaaVCopy
namespace Go.Proofs.Ytgihnhdknphhpaa
open Go.RowKit

mutual
inductive Tr where
  | one (v : Value)
  | row (l : TrL)
inductive TrS where
  | nil
  | cons (x : Tr) (t : TrS)
inductive TrL where
  | nil
  | cons (s : TrS) (t : TrL)
end
def TrS.len : TrS → Nat
  | .nil => 0
  | .cons _ t => t.len + 1
def TrL.len : TrL → Nat
  | .nil => 0
  | .cons _ t => t.len + 1
def TrL.snoc : TrL → TrS → TrL
  | .nil, s => .cons s .nil
  | .cons u t, s => .cons u (t.snoc s)
theorem TrL.snoc_len : ∀ (l : TrL) (s : TrS), (l.snoc s).len = l.len + 1
  | .nil, _ => rfl
  | .cons u t, s => by rw [TrL.snoc, TrL.len, TrL.len, TrL.snoc_len t s]
def okV : Value → Prop
  | .string s => s.size ≤ 9223372036854775807
  | _ => True
mutual
/-- This cell is the tree; all that it reaches lies in blocks of which P speaks. -/
def TP (w : World) (P : Nat → Prop) : Tr → Value → Prop
  | .one v, c => c = v ∧ okV v
  | .row l, c => ∃ A k, c = .slice A l.len k ∧ l.len ≤ 9223372036854775807 ∧ RowT w P l A
def TS (w : World) (P : Nat → Prop) : TrS → List Value → Prop
  | .nil, cs => cs = []
  | .cons x t, cs => ∃ c ys, cs = c :: ys ∧ TP w P x c ∧ TS w P t ys
def RowT (w : World) (P : Nat → Prop) : TrL → Option Addr → Prop
  | .nil, _ => True
  | .cons s t, A => ∃ b o cs, A = some ⟨b, o, none⟩ ∧ P b ∧ (∀ j u, cs[j]? = some u → w.cell? ⟨b, o + j, none⟩ = some u) ∧ TS w P s cs ∧ RowT w P t (some ⟨b, o + s.len, none⟩)
end
mutual
theorem TP.keep {w w' : World} {P P' : Nat → Prop} (hP : ∀ b, P b → P' b ∧ w'.heap[b]? = w.heap[b]?) : ∀ (x : Tr) (c : Value), TP w P x c → TP w' P' x c
  | .one v, c, h => by unfold TP at h ⊢; exact h
  | .row l, c, h => by
    unfold TP at h ⊢
    obtain ⟨A, k, h0, h1, h2⟩ := h
    exact ⟨A, k, h0, h1, RowT.keep hP l A h2⟩
theorem TS.keep {w w' : World} {P P' : Nat → Prop} (hP : ∀ b, P b → P' b ∧ w'.heap[b]? = w.heap[b]?) : ∀ (s : TrS) (cs : List Value), TS w P s cs → TS w' P' s cs
  | .nil, cs, h => by unfold TS at h ⊢; exact h
  | .cons x t, cs, h => by
    unfold TS at h ⊢
    obtain ⟨c, ys, e, h1, h2⟩ := h
    exact ⟨c, ys, e, TP.keep hP x c h1, TS.keep hP t ys h2⟩
theorem RowT.keep {w w' : World} {P P' : Nat → Prop} (hP : ∀ b, P b → P' b ∧ w'.heap[b]? = w.heap[b]?) : ∀ (l : TrL) (A : Option Addr), RowT w P l A → RowT w' P' l A
  | .nil, _, _ => by unfold RowT; trivial
  | .cons s t, A, h => by
    unfold RowT at h ⊢
    obtain ⟨b, o, cs, e, hb, hc, h1, h2⟩ := h
    exact ⟨b, o, cs, e, (hP b hb).1, fun j u hu => (World.cell?_of_block (a := ⟨b, o + j, none⟩) (hP b hb).2).trans (hc j u hu), TS.keep hP s cs h1, RowT.keep hP t _ h2⟩
end
theorem TS.len {w : World} {P : Nat → Prop} : ∀ {s : TrS} {cs : List Value}, TS w P s cs → cs.length = s.len
  | .nil, cs, h => by unfold TS at h; subst h; rfl
  | .cons x t, cs, h => by
    unfold TS at h
    obtain ⟨c, ys, rfl, _, h2⟩ := h
    rw [List.length_cons, TS.len h2, TrS.len]
/-- These cells are those of a row. -/
def TLV (w : World) (P : Nat → Prop) : TrL → List Value → Prop
  | .nil, xs => xs = []
  | .cons s t, xs => ∃ cs ys, xs = cs ++ ys ∧ TS w P s cs ∧ TLV w P t ys
theorem TLV.keep {w w' : World} {P P' : Nat → Prop} (hP : ∀ b, P b → P' b ∧ w'.heap[b]? = w.heap[b]?) : ∀ {l : TrL} {xs : List Value}, TLV w P l xs → TLV w' P' l xs
  | .nil, _, h => h
  | .cons s t, xs, h => by
    obtain ⟨cs, ys, e, h1, h2⟩ := h
    exact ⟨cs, ys, e, TS.keep hP s cs h1, TLV.keep hP h2⟩
theorem TLV.snoc {w : World} {P : Nat → Prop} {s : TrS} {cs : List Value} (hd : TS w P s cs) : ∀ {l : TrL} {xs : List Value}, TLV w P l xs → TLV w P (l.snoc s) (xs ++ cs)
  | .nil, xs, h => by
    have : xs = [] := h
    subst this
    exact ⟨cs, [], by simp, hd, rfl⟩
  | .cons u t, xs, h => by
    obtain ⟨c, ys, rfl, hv, ht⟩ := h
    exact ⟨c, ys ++ cs, by simp, hv, TLV.snoc hd ht⟩
theorem RowT.of_cells {w : World} {P : Nat → Prop} {g : Nat} (hg : P g) : ∀ {l : TrL} {xs : List Value} (i : Nat), TLV w P l xs → (∀ j u, xs[j]? = some u → w.cell? ⟨g, i + j, none⟩ = some u) → RowT w P l (some ⟨g, i, none⟩)
  | .nil, _, _, _, _ => by unfold RowT; trivial
  | .cons s t, xs, i, h, hc => by
    obtain ⟨cs, ys, rfl, hv, ht⟩ := h
    unfold RowT
    refine ⟨g, i, cs, rfl, hg, fun j u hj => hc j u ?_, hv, RowT.of_cells hg (i + s.len) ht (fun j u hj => ?_)⟩
    · rw [List.getElem?_append_left (List.getElem?_eq_some_iff.1 hj).1]; exact hj
    · have := hc (s.len + j) u (by rw [← hv.len, List.getElem?_append_right (by omega)]; simpa using hj)
      rwa [← Nat.add_assoc] at this
/-- A row that is owned. -/
theorem row_tl {w : World} {base n : Nat} {ty : TypeId} {V : Value} {P : Nat → Prop} {l : TrL} {xs : List Value} (h : w.ownsRow base ty n V l.len xs) (hv : TLV w P l xs) :
    ∃ A c, V = .slice A l.len c ∧ RowT w (fun b => P b ∨ V.ownBlock = some b) l A := by
  rcases h.2 with ⟨hV, hn⟩ | ⟨g, c, cur, hV, _⟩
  · refine ⟨none, 0, by rw [hV, hn], ?_⟩
    cases l with
    | nil => unfold RowT; trivial
    | cons v t => simp [TrL.len] at hn
  · have hg : V.ownBlock = some g := by rw [hV]; rfl
    refine ⟨some ⟨g, 0, none⟩, c, hV, RowT.of_cells (.inr hg) 0 (hv.keep (fun b hb => ⟨.inl hb, rfl⟩)) (fun j u hj => ?_)⟩
    have := h.cells hg j u hj
    rwa [add_at] at this
mutual
def encV : VT → TrS
  | .mk k n s l m => .cons (.one (.int .i64 k)) (.cons (.one (.int .i64 n)) (.cons (.one (.string s)) (.cons (.row (encL l)) (.cons (.row (encM m)) .nil))))
def encL : VL → TrL
  | .nil => .nil
  | .cons v t => .cons (encV v) (encL t)
def encM : VM → TrL
  | .nil => .nil
  | .cons nm v t => .cons (.cons (.one (.string nm)) (encV v)) (encM t)
end
theorem encV_len : ∀ v : VT, (encV v).len = 5
  | .mk _ _ _ _ _ => by rw [encV]; rfl
theorem encL_len : ∀ l : VL, (encL l).len = l.len
  | .nil => by rw [encL]; rfl
  | .cons v t => by rw [encL, TrL.len, VL.len, encL_len t]
theorem encM_len : ∀ l : VM, (encM l).len = l.len
  | .nil => by rw [encM]; rfl
  | .cons nm v t => by rw [encM, TrL.len, VM.len, encM_len t]
def shiftA : Option Addr → Nat → Option Addr
  | none, _ => none
  | some ⟨b, o, x⟩, n => some ⟨b, o + n, x⟩
theorem shiftA_zero (A : Option Addr) : shiftA A 0 = A := by
  cases A with
  | none => rfl
  | some a => rfl
mutual
theorem vp_ts {w : World} {P : Nat → Prop} : ∀ (v : VT) (c0 c1 c2 c3 c4 : Value), VP w P v c0 c1 c2 c3 c4 → TS w P (encV v) [c0, c1, c2, c3, c4]
  | .mk k n s l m, c0, c1, c2, c3, c4, h => by
    unfold VP at h
    obtain ⟨h0, h1, h2, hs, ⟨A, c, h3, g3, h4⟩, A', c', h5, g5, h6⟩ := h
    rw [encV]
    simp only [TS, TP]
    refine ⟨_, _, rfl, ⟨h0, trivial⟩, _, _, rfl, ⟨h1, trivial⟩, _, _, rfl, ⟨h2, hs⟩, _, _, rfl, ⟨A, c, by rw [encL_len]; exact h3, by rw [encL_len]; exact g3, ?_⟩, _, _, rfl, ⟨A', c', by rw [encM_len]; exact h5, by rw [encM_len]; exact g5, ?_⟩, rfl⟩
    · have := lp_tl l A 0 h4; rwa [Nat.zero_mul, shiftA_zero] at this
    · have := mp_tl m A' 0 h6; rwa [Nat.zero_mul, shiftA_zero] at this
theorem lp_tl {w : World} {P : Nat → Prop} : ∀ (l : VL) (A : Option Addr) (j : Nat), LP w P l A j → RowT w P (encL l) (shiftA A (j * 5))
  | .nil, _, _, _ => by rw [encL]; unfold RowT; trivial
  | .cons v t, A, j, h => by
    unfold LP at h
    obtain ⟨⟨b, o, c0, c1, c2, c3, c4, rfl, hb, hf, hv⟩, ht⟩ := h
    rw [encL]
    unfold RowT
    refine ⟨b, o + j * 5, [c0, c1, c2, c3, c4], rfl, hb, fun i u hi => ?_, vp_ts v _ _ _ _ _ hv, ?_⟩
    · match i, hi with
      | 0, hi => cases hi; exact hf.1
      | 1, hi => cases hi; exact hf.2.1
      | 2, hi => cases hi; exact hf.2.2.1
      | 3, hi => cases hi; exact hf.2.2.2.1
      | 4, hi => cases hi; exact hf.2.2.2.2
    · have := lp_tl t _ (j + 1) ht
      rw [encV_len]
      rwa [show o + j * 5 + 5 = o + (j + 1) * 5 by omega]
theorem mp_tl {w : World} {P : Nat → Prop} : ∀ (l : VM) (A : Option Addr) (j : Nat), MP w P l A j → RowT w P (encM l) (shiftA A (j * 6))
  | .nil, _, _, _ => by rw [encM]; unfold RowT; trivial
  | .cons nm v t, A, j, h => by
    unfold MP at h
    obtain ⟨⟨b, o, c0, c1, c2, c3, c4, rfl, hb, hn, hz, hf, hv⟩, ht⟩ := h
    rw [encM]
    unfold RowT
    refine ⟨b, o + j * 6, [.string nm, c0, c1, c2, c3, c4], rfl, hb, fun i u hi => ?_, ?_, ?_⟩
    · match i, hi with
      | 0, hi => cases hi; exact hn
      | 1, hi => cases hi; exact hf.1
      | 2, hi => cases hi; exact hf.2.1
      | 3, hi => cases hi; exact hf.2.2.1
      | 4, hi => cases hi; exact hf.2.2.2.1
      | 5, hi => cases hi; exact hf.2.2.2.2
    · rw [TS]
      exact ⟨_, _, rfl, by unfold TP; exact ⟨rfl, hz⟩, vp_ts v _ _ _ _ _ hv⟩
    · have := mp_tl t _ (j + 1) ht
      rw [TrS.len, encV_len]
      rwa [show o + j * 6 + (5 + 1) = o + (j + 1) * 6 by omega]
end
mutual
theorem ts_vp {w : World} {P : Nat → Prop} : ∀ (v : VT) (cs : List Value), TS w P (encV v) cs → ∃ c0 c1 c2 c3 c4, cs = [c0, c1, c2, c3, c4] ∧ VP w P v c0 c1 c2 c3 c4
  | .mk k n s l m, cs, h => by
    rw [encV] at h
    simp only [TS, TP] at h
    obtain ⟨c0, _, rfl, ⟨h0, _⟩, c1, _, rfl, ⟨h1, _⟩, c2, _, rfl, ⟨h2, hs⟩, c3, _, rfl, ⟨A, c, h3, g3, h4⟩, c4, _, rfl, ⟨A', c', h5, g5, h6⟩, rfl⟩ := h
    rw [encL_len] at h3 g3
    rw [encM_len] at h5 g5
    refine ⟨c0, c1, c2, c3, c4, rfl, ?_⟩
    unfold VP
    exact ⟨h0, h1, h2, hs, ⟨A, c, h3, g3, tl_lp l A 0 (by rw [Nat.zero_mul, shiftA_zero]; exact h4)⟩, A', c', h5, g5, tl_mp m A' 0 (by rw [Nat.zero_mul, shiftA_zero]; exact h6)⟩
theorem tl_lp {w : World} {P : Nat → Prop} : ∀ (l : VL) (A : Option Addr) (j : Nat), RowT w P (encL l) (shiftA A (j * 5)) → LP w P l A j
  | .nil, _, _, _ => by unfold LP; trivial
  | .cons v t, A, j, h => by
    rw [encL] at h
    unfold RowT at h
    obtain ⟨b, o, cs, e, hb, hc, h1, h2⟩ := h
    obtain ⟨c0, c1, c2, c3, c4, rfl, hv⟩ := ts_vp v cs h1
    cases A with
    | none => cases e
    | some a =>
      obtain ⟨b', o', x⟩ := a
      have e := Option.some.inj e
      injection e with e1 e2 e3
      subst e1 e2 e3
      unfold LP
      refine ⟨⟨b', o', c0, c1, c2, c3, c4, rfl, hb, ⟨hc 0 _ rfl, hc 1 _ rfl, hc 2 _ rfl, hc 3 _ rfl, hc 4 _ rfl⟩, hv⟩, tl_lp t _ (j + 1) ?_⟩
      rw [encV_len] at h2
      rwa [show shiftA (some (⟨b', o', none⟩ : Addr)) ((j + 1) * 5) = some ⟨b', o' + j * 5 + 5, none⟩ by rw [shiftA]; congr 2; omega]
theorem tl_mp {w : World} {P : Nat → Prop} : ∀ (l : VM) (A : Option Addr) (j : Nat), RowT w P (encM l) (shiftA A (j * 6)) → MP w P l A j
  | .nil, _, _, _ => by unfold MP; trivial
  | .cons nm v t, A, j, h => by
    rw [encM] at h
    unfold RowT at h
    obtain ⟨b, o, cs, e, hb, hc, h1, h2⟩ := h
    rw [TS] at h1
    obtain ⟨c, ys, rfl, h0, h1⟩ := h1
    unfold TP at h0
    obtain ⟨rfl, hz⟩ := h0
    obtain ⟨c0, c1, c2, c3, c4, rfl, hv⟩ := ts_vp v ys h1
    cases A with
    | none => cases e
    | some a =>
      obtain ⟨b', o', x⟩ := a
      have e := Option.some.inj e
      injection e with e1 e2 e3
      subst e1 e2 e3
      unfold MP
      refine ⟨⟨b', o', c0, c1, c2, c3, c4, rfl, hb, hc 0 _ rfl, hz, ⟨hc 1 _ rfl, hc 2 _ rfl, hc 3 _ rfl, hc 4 _ rfl, hc 5 _ rfl⟩, hv⟩, tl_mp t _ (j + 1) ?_⟩
      rw [TrS.len, encV_len] at h2
      rwa [show shiftA (some (⟨b', o', none⟩ : Addr)) ((j + 1) * 6) = some ⟨b', o' + j * 6 + (5 + 1), none⟩ by rw [shiftA]; congr 2; omega]
end
/-- Directives, selections, definitions as plain data. -/
abbrev DirT := ByteArray × VM
mutual
inductive SelT where
  | mk (kind : Int) (alias name : ByteArray) (args : VM) (dirs : List DirT) (on : ByteArray) (sels : SelL)
inductive SelL where
  | nil
  | cons (x : SelT) (t : SelL)
end
def SelL.len : SelL → Nat
  | .nil => 0
  | .cons _ t => t.len + 1
def SelL.snoc : SelL → SelT → SelL
  | .nil, x => .cons x .nil
  | .cons u t, x => .cons u (t.snoc x)
structure VarT where
  name : ByteArray
  tn : ByteArray
  tl : Int
  tm : Int
  has : Bool
  v : VT
structure OpT where
  kind : Int
  name : ByteArray
  vars : List VarT
  dirs : List DirT
  sels : SelL
structure FragT where
  name : ByteArray
  on : ByteArray
  dirs : List DirT
  sels : SelL
def rowOf {α : Type} (f : α → TrS) : List α → TrL
  | [] => .nil
  | a :: t => .cons (f a) (rowOf f t)
theorem rowOf_len {α : Type} (f : α → TrS) : ∀ l : List α, (rowOf f l).len = l.length
  | [] => rfl
  | a :: t => by rw [rowOf, TrL.len, rowOf_len f t]; rfl
theorem rowOf_snoc {α : Type} (f : α → TrS) : ∀ (l : List α) (a : α), rowOf f (l ++ [a]) = (rowOf f l).snoc (f a)
  | [], a => rfl
  | b :: t, a => by rw [List.cons_append, rowOf, rowOf, TrL.snoc, rowOf_snoc f t]
def encMem (nm : ByteArray) (v : VT) : TrS := .cons (.one (.string nm)) (encV v)
def encD (d : DirT) : TrS := .cons (.one (.string d.1)) (.cons (.row (encM d.2)) .nil)
mutual
def encS : SelT → TrS
  | .mk k a n g d o s => .cons (.one (.int .i64 k)) (.cons (.one (.string a)) (.cons (.one (.string n)) (.cons (.row (encM g)) (.cons (.row (rowOf encD d)) (.cons (.one (.string o)) (.cons (.row (encSL s)) .nil))))))
def encSL : SelL → TrL
  | .nil => .nil
  | .cons x t => .cons (encS x) (encSL t)
end
theorem encSL_len : ∀ l : SelL, (encSL l).len = l.len
  | .nil => by rw [encSL]; rfl
  | .cons x t => by rw [encSL, TrL.len, SelL.len, encSL_len t]
theorem encSL_snoc : ∀ (l : SelL) (x : SelT), encSL (l.snoc x) = (encSL l).snoc (encS x)
  | .nil, x => by rw [SelL.snoc, encSL, encSL, TrL.snoc, encSL]
  | .cons u t, x => by rw [SelL.snoc, encSL, encSL, TrL.snoc, encSL_snoc t]
def encVar (x : VarT) : TrS := .cons (.one (.string x.name)) (.cons (.one (.string x.tn)) (.cons (.one (.int .i64 (x.tl : Int))) (.cons (.one (.int .i64 (x.tm : Int))) (.cons (.one (.bool x.has)) (encV x.v)))))
def encOp (x : OpT) : TrS := .cons (.one (.int .i64 x.kind)) (.cons (.one (.string x.name)) (.cons (.row (rowOf encVar x.vars)) (.cons (.row (rowOf encD x.dirs)) (.cons (.row (encSL x.sels)) .nil))))
def encF (x : FragT) : TrS := .cons (.one (.string x.name)) (.cons (.one (.string x.on)) (.cons (.row (rowOf encD x.dirs)) (.cons (.row (encSL x.sels)) .nil)))
end Go.Proofs.Ytgihnhdknphhpaa
