/- seinekeep.Schema: a schema, copied. -/
import Derived.Test.YtmamgaifpjgfkaaDfKeepG
import Derived.Test.YtmamgaifpjgfkaaDfField
namespace Go.Proofs.Ytmamgaifpjgfkaa
open Go.RowKit

/-- What stands at the head of the outer loop. -/
structure KSc (w : World) (S : SchT) (A : Option Addr) (k : Nat) (V : Value) (q : Nat) (W : World) : Prop where
  low : Below w.heap.size w W
  size : w.heap.size + 3 ≤ W.heap.size
  box : W.heap[w.heap.size]? = some (.cells #[.slice A S.defs.length k, .string S.query, .string S.mutation] 24 (0, 0))
  res : W.heap[w.heap.size + 1]? = some (.cells #[.slice none 0 0, .string ⟨#[]⟩, .string ⟨#[]⟩] 24 (0, 0))
  out : W.heap[w.heap.size + 1 + 1]? = some (.cells #[V, .string S.query, .string S.mutation] 24 (0, 0))
  row : RG encDefn 32 6 w.heap.size (w.heap.size + 3) W V q (S.defs.take q)
theorem KSc.next {w W W' : World} {S : SchT} {A : Option Addr} {k : Nat} {V : Value} {q : Nat} (h : KSc w S A k V q W) (hb : Below W.heap.size W W') : KSc w S A k V q W' := by
  have hs := h.size
  exact ⟨h.low.trans (hb.mono h.low.size), Nat.le_trans hs hb.size, (hb.block _ (by omega)).trans h.box, (hb.block _ (by omega)).trans h.res, (hb.block _ (by omega)).trans h.out, h.row.low hb⟩
/-- The box of a definition. -/
structure KDf (wr : World) (x : DefnT) (c2 c3 c4 c5 : Value) (W : World) : Prop where
  low : Below wr.heap.size wr W
  size : wr.heap.size + 1 ≤ W.heap.size
  box : W.heap[wr.heap.size]? = some (.cells #[.int .i64 x.kind, .string x.name, c2, c3, c4, c5] 32 (0, 0))
theorem KDf.start (w : World) (x : DefnT) (c2 c3 c4 c5 : Value) : KDf w x c2 c3 c4 c5 (w.alloc (.cells #[.int .i64 x.kind, .string x.name, c2, c3, c4, c5] 32)) :=
  ⟨dbelow_new _ _, by simp, heap_alloc_new _ _⟩
theorem KDf.next {wr W W' : World} {x : DefnT} {c2 c3 c4 c5 : Value} (h : KDf wr x c2 c3 c4 c5 W) (hb : Below W.heap.size W W') : KDf wr x c2 c3 c4 c5 W' := by
  have hs := h.size
  exact ⟨h.low.trans (hb.mono h.low.size), Nat.le_trans hs hb.size, (hb.block _ (by omega)).trans h.box⟩
/-- The box of a field. -/
structure KF (wr : World) (x : FieldT) (c1 c5 : Value) (W : World) : Prop where
  low : Below wr.heap.size wr W
  size : wr.heap.size + 1 ≤ W.heap.size
  box : W.heap[wr.heap.size]? = some (.cells #[.string x.name, c1, .string x.tn, .int .i64 x.tl, .int .i64 x.tm, c5] 46 (0, 0))
theorem KF.start (w : World) (x : FieldT) (c1 c5 : Value) : KF w x c1 c5 (w.alloc (.cells #[.string x.name, c1, .string x.tn, .int .i64 x.tl, .int .i64 x.tm, c5] 46)) :=
  ⟨dbelow_new _ _, by simp, heap_alloc_new _ _⟩
theorem KF.next {wr W W' : World} {x : FieldT} {c1 c5 : Value} (h : KF wr x c1 c5 W) (hb : Below W.heap.size W W') : KF wr x c1 c5 W' := by
  have hs := h.size
  exact ⟨h.low.trans (hb.mono h.low.size), Nat.le_trans hs hb.size, (hb.block _ (by omega)).trans h.box⟩
theorem six_newc (w : World) (a0 a1 a2 a3 a4 a5 : Value) (t : TypeId) {n : Nat} (hn : n = w.heap.size) : ∀ (j : Nat) u, [a0, a1, a2, a3, a4, a5][j]? = some u → (w.alloc (.cells #[a0, a1, a2, a3, a4, a5] t)).cell? ((⟨n, 0, none⟩ : Addr).add j) = some u := by
  subst hn
  intro j u hu
  rw [add_at, Nat.zero_add]
  obtain ⟨⟨h0, h1, h2, h3, h4, h5⟩, _⟩ := six_cells (heap_alloc_new w (.cells #[a0, a1, a2, a3, a4, a5] t))
  match j, hu with
  | 0, hu => cases hu; exact h0
  | 1, hu => cases hu; exact h1
  | 2, hu => cases hu; exact h2
  | 3, hu => cases hu; exact h3
  | 4, hu => cases hu; exact h4
  | 5, hu => cases hu; exact h5
theorem RG.own_lt {α : Type} {f : α → TrS} {ty : TypeId} {n B base : Nat} {W : World} {V : Value} {q : Nat} {l : List α} (h : RG f ty n B base W V q l) : ∀ k, V.ownBlock = some k → base ≤ k ∧ k < W.heap.size := by
  obtain ⟨xs, P, h1, _⟩ := h
  exact h1.lt
theorem KF.set1 {wr W : World} {x : FieldT} {c1 c5 : Value} (h : KF wr x c1 c5 W) (v : Value) : KF wr x v c5 (W.setCell ⟨wr.heap.size, 1, none⟩ v) :=
  ⟨h.low.setCell (p := ⟨wr.heap.size, 1, none⟩) (Nat.le_refl _) v, by simpa [World.setCell] using h.size, by simp [World.setCell, Array.getElem?_modify, h.box]⟩
theorem KF.set5 {wr W : World} {x : FieldT} {c1 c5 : Value} (h : KF wr x c1 c5 W) (v : Value) : KF wr x c1 v (W.setCell ⟨wr.heap.size, 5, none⟩ v) :=
  ⟨h.low.setCell (p := ⟨wr.heap.size, 5, none⟩) (Nat.le_refl _) v, by simpa [World.setCell] using h.size, by simp [World.setCell, Array.getElem?_modify, h.box]⟩
theorem fld_done {H : Nat} {wr wf w3 w4 : World} {x : FieldT} {c1 c5 : Value} {A1 A3 : Option Addr} {k1 k3 : Nat} (h : KF wr x c1 c5 wf) (h3 : wr.heap.size + 1 ≤ w3.heap.size) (hn : x.name.size ≤ 9223372036854775807 ∧ x.tn.size ≤ 9223372036854775807) (l1 : x.params.length ≤ 9223372036854775807) (l5 : x.dirs.length ≤ 9223372036854775807)
    (r1 : RowT w3 (OwnP (fun b => b < H) wf.drew.heap.size w3) (rowOf encVar x.params) A1) (r3 : RowT w4 (Fresh w3 w4) (rowOf encD x.dirs) A3) (hb : Below w3.heap.size w3 w4) (hH : H ≤ wr.heap.size) :
    TS ((w4.setCell ⟨wr.heap.size, 1, none⟩ (.slice A1 x.params.length k1)).setCell ⟨wr.heap.size, 5, none⟩ (.slice A3 x.dirs.length k3)) (fun b => (b < H ∨ wr.heap.size + 1 ≤ b) ∧ b < ((w4.setCell ⟨wr.heap.size, 1, none⟩ (.slice A1 x.params.length k1)).setCell ⟨wr.heap.size, 5, none⟩ (.slice A3 x.dirs.length k3)).heap.size) (encField x) [.string x.name, .slice A1 x.params.length k1, .string x.tn, .int .i64 x.tl, .int .i64 x.tm, .slice A3 x.dirs.length k3] := by
  have hs := hb.size
  have hf := h.size
  refine fld_ts hn l1 l5 (RowT.keep (fun b hx => ?_) _ _ r1) (RowT.keep (fun b hx => ?_) _ _ r3)
  · obtain ⟨h1, h2⟩ := hx
    have h2 : b < H ∨ wf.heap.size ≤ b := h2
    exact ⟨⟨h2.imp_right (fun h => by omega), by simp [World.setCell]; omega⟩, (Below.heap_setCell _ _ _ _ (by show b ≠ wr.heap.size; omega)).trans ((Below.heap_setCell _ _ _ _ (by show b ≠ wr.heap.size; omega)).trans (hb.block b h1))⟩
  · obtain ⟨h1, h2⟩ := hx
    exact ⟨⟨.inr (by omega), by simpa [World.setCell] using h2⟩, (Below.heap_setCell _ _ _ _ (by show b ≠ wr.heap.size; omega)).trans (Below.heap_setCell _ _ _ _ (by show b ≠ wr.heap.size; omega))⟩
theorem below_far {H : Nat} {wo w3 : World} {D : Nat} {c3 c5 : Value} (hH : H ≤ D) (hb : Below H wo w3) : Below H wo ((w3.setCell ⟨D, 3, none⟩ c3).setCell ⟨D, 5, none⟩ c5) :=
  (hb.setCell (p := ⟨D, 3, none⟩) hH _).setCell (p := ⟨D, 5, none⟩) hH _
theorem two_far {H D : Nat} {w3 : World} {i j : Nat} {c3 c5 : Value} {b : Nat} (hH : H ≤ D) (h : (b < H ∨ D + 1 ≤ b) ∧ b < w3.heap.size) : ((b < H ∨ D + 1 ≤ b) ∧ b < ((w3.setCell ⟨D, i, none⟩ c3).setCell ⟨D, j, none⟩ c5).heap.size) ∧ ((w3.setCell ⟨D, i, none⟩ c3).setCell ⟨D, j, none⟩ c5).heap[b]? = w3.heap[b]? :=
  ⟨⟨h.1, by simpa [World.setCell] using h.2⟩, (Below.heap_setCell _ _ _ _ (by show b ≠ D; omega)).trans (Below.heap_setCell _ _ _ _ (by show b ≠ D; omega))⟩
theorem KDf.set2 {wr W : World} {x : DefnT} {c2 c3 c4 c5 : Value} (h : KDf wr x c2 c3 c4 c5 W) (v : Value) : KDf wr x v c3 c4 c5 (W.setCell ⟨wr.heap.size, 2, none⟩ v) :=
  ⟨h.low.setCell (p := ⟨wr.heap.size, 2, none⟩) (Nat.le_refl _) v, by simpa [World.setCell] using h.size, by simp [World.setCell, Array.getElem?_modify, h.box]⟩
theorem KDf.set3 {wr W : World} {x : DefnT} {c2 c3 c4 c5 : Value} (h : KDf wr x c2 c3 c4 c5 W) (v : Value) : KDf wr x c2 v c4 c5 (W.setCell ⟨wr.heap.size, 3, none⟩ v) :=
  ⟨h.low.setCell (p := ⟨wr.heap.size, 3, none⟩) (Nat.le_refl _) v, by simpa [World.setCell] using h.size, by simp [World.setCell, Array.getElem?_modify, h.box]⟩
theorem KDf.set4 {wr W : World} {x : DefnT} {c2 c3 c4 c5 : Value} (h : KDf wr x c2 c3 c4 c5 W) (v : Value) : KDf wr x c2 c3 v c5 (W.setCell ⟨wr.heap.size, 4, none⟩ v) :=
  ⟨h.low.setCell (p := ⟨wr.heap.size, 4, none⟩) (Nat.le_refl _) v, by simpa [World.setCell] using h.size, by simp [World.setCell, Array.getElem?_modify, h.box]⟩
theorem KDf.set5 {wr W : World} {x : DefnT} {c2 c3 c4 c5 : Value} (h : KDf wr x c2 c3 c4 c5 W) (v : Value) : KDf wr x c2 c3 c4 v (W.setCell ⟨wr.heap.size, 5, none⟩ v) :=
  ⟨h.low.setCell (p := ⟨wr.heap.size, 5, none⟩) (Nat.le_refl _) v, by simpa [World.setCell] using h.size, by simp [World.setCell, Array.getElem?_modify, h.box]⟩
theorem dfn_done {H : Nat} {wo w4 w5 w6 : World} {x : DefnT} {A0 A1 A2 A3 : Option Addr} {k1 k2 k3 k4 : Nat} (h4 : wo.heap.size + 1 ≤ w4.heap.size) (hH : H ≤ wo.heap.size) (h0 : x.name.size ≤ 9223372036854775807) (l1 : x.faces.length ≤ 9223372036854775807) (l2 : x.fields.length ≤ 9223372036854775807) (l3 : x.parts.length ≤ 9223372036854775807) (l4 : x.params.length ≤ 9223372036854775807)
    (r2 : RowT w5 (OwnP (fun b => b < H) w4.drew.heap.size w5) (rowOf encStr x.faces) A2) (r0 : RowT w4 (fun b => (b < H ∨ wo.heap.size + 1 ≤ b) ∧ b < w4.heap.size) (rowOf encField x.fields) A0) (r3 : RowT w6 (OwnP (fun b => b < H) w5.heap.size w6) (rowOf encStr x.parts) A3) (r1 : RowT w4 (fun b => (b < H ∨ wo.heap.size + 1 ≤ b) ∧ b < w4.heap.size) (rowOf encVar x.params) A1)
    (d5 : Below w4.heap.size w4 w5) (d6 : Below w5.heap.size w5 w6) :
    TS ((w6.setCell ⟨wo.heap.size, 2, none⟩ (.slice A2 x.faces.length k2)).setCell ⟨wo.heap.size, 4, none⟩ (.slice A3 x.parts.length k3)) (fun b => (b < H ∨ wo.heap.size + 1 ≤ b) ∧ b < ((w6.setCell ⟨wo.heap.size, 2, none⟩ (.slice A2 x.faces.length k2)).setCell ⟨wo.heap.size, 4, none⟩ (.slice A3 x.parts.length k3)).heap.size) (encDefn x) [.int .i64 x.kind, .string x.name, .slice A2 x.faces.length k2, .slice A0 x.fields.length k4, .slice A3 x.parts.length k3, .slice A1 x.params.length k1] := by
  have hs5 := d5.size
  have hs6 := d6.size
  refine defn_ts h0 l1 l2 l3 l4 (RowT.keep (fun b hx => ?_) _ _ r2) (RowT.keep (fun b hx => ?_) _ _ r0) (RowT.keep (fun b hx => ?_) _ _ r3) (RowT.keep (fun b hx => ?_) _ _ r1)
  · obtain ⟨h1, h2⟩ := hx
    have h2 : b < H ∨ w4.heap.size ≤ b := h2
    obtain ⟨g1, g2⟩ := two_far (D := wo.heap.size) (w3 := w6) (i := 2) (j := 4) (c3 := .slice A2 x.faces.length k2) (c5 := .slice A3 x.parts.length k3) hH (b := b) ⟨h2.imp_right (fun h => by omega), by omega⟩
    exact ⟨g1, g2.trans (d6.block b h1)⟩
  · obtain ⟨h1, h2⟩ := hx
    obtain ⟨g1, g2⟩ := two_far (D := wo.heap.size) (w3 := w6) (i := 2) (j := 4) (c3 := .slice A2 x.faces.length k2) (c5 := .slice A3 x.parts.length k3) hH (b := b) ⟨h1, by omega⟩
    exact ⟨g1, g2.trans ((d6.block b (by omega)).trans (d5.block b h2))⟩
  · obtain ⟨h1, h2⟩ := hx
    have h2 : b < H ∨ w5.heap.size ≤ b := h2
    obtain ⟨g1, g2⟩ := two_far (D := wo.heap.size) (w3 := w6) (i := 2) (j := 4) (c3 := .slice A2 x.faces.length k2) (c5 := .slice A3 x.parts.length k3) hH (b := b) ⟨h2.imp_right (fun h => by omega), h1⟩
    exact ⟨g1, g2⟩
  · obtain ⟨h1, h2⟩ := hx
    obtain ⟨g1, g2⟩ := two_far (D := wo.heap.size) (w3 := w6) (i := 2) (j := 4) (c3 := .slice A2 x.faces.length k2) (c5 := .slice A3 x.parts.length k3) hH (b := b) ⟨h1, by omega⟩
    exact ⟨g1, g2.trans ((d6.block b (by omega)).trans (d5.block b h2))⟩
theorem KSc.out_grown {w W w4 : World} {S : SchT} {A : Option Addr} {k : Nat} {V : Value} {q : Nat} {o : Obj} (h : KSc w S A k V q W) (hg : (W.alloc o).grownBy w4 V.ownBlock) : w4.heap[w.heap.size + 1 + 1]? = some (.cells #[V, .string S.query, .string S.mutation] 24 (0, 0)) := by
  have hs := h.size
  exact (hg.block _ (by simp; omega) (fun e => by have := h.row.own_lt _ e.symm; omega)).trans ((Below.heap_alloc _ _ _ (by omega)).trans h.out)
theorem KSc.push {w W w4 : World} {S : SchT} {A : Option Addr} {k : Nat} {V : Value} {q g cap : Nat} {o : Obj} {x : DefnT} {xs cs : List Value} {P Q : Nat → Prop} (h : KSc w S A k V q W) (ht : S.defs.take (q + 1) = S.defs.take q ++ [x])
    (hown : W.ownsRow (w.heap.size + 3) 32 6 V q xs) (hv : TLV W P (rowOf encDefn (S.defs.take q)) xs) (hP : ∀ b, P b → (b < w.heap.size ∨ w.heap.size + 3 ≤ b) ∧ b < W.heap.size ∧ V.ownBlock ≠ some b) (hx : TS W Q (encDefn x) cs) (hQ : ∀ b, Q b → (b < w.heap.size ∨ w.heap.size + 3 ≤ b) ∧ b < W.heap.size ∧ V.ownBlock ≠ some b)
    (hown4 : w4.ownsRow (w.heap.size + 3) 32 6 (.slice (some ⟨g, 0, none⟩) (q + 1) cap) (q + 1) (xs ++ cs)) (hg : (W.alloc o).grownBy w4 V.ownBlock) (hat : V.ownBlock = some g ∨ g = (W.alloc o).heap.size) :
    KSc w S A k (.slice (some ⟨g, 0, none⟩) (q + 1) cap) (q + 1) (w4.setCell ⟨w.heap.size + 1 + 1, 0, none⟩ (.slice (some ⟨g, 0, none⟩) (q + 1) cap)) := by
  have hs := h.size
  have hl : ∀ b, V.ownBlock = some b → w.heap.size + 3 ≤ b := fun b e => (hown.lt b e).1
  have hk : ∀ b, b < W.heap.size → V.ownBlock ≠ some b → b ≠ w.heap.size + 1 + 1 → (w4.setCell ⟨w.heap.size + 1 + 1, 0, none⟩ (.slice (some ⟨g, 0, none⟩) (q + 1) cap)).heap[b]? = W.heap[b]? := fun b h1 h2 h3 =>
    (Below.heap_setCell _ _ _ _ h3).trans ((hg.block b (by simp; omega) (fun e => h2 e.symm)).trans (Below.heap_alloc _ _ _ h1))
  have hz := hg.size
  have hW4 : W.heap.size ≤ w4.heap.size := by simp at hz; omega
  refine ⟨(((h.low.alloc h.low.size o).grown hg (by simp; omega) (fun b e => by have := hl b e; omega)).setCell (p := ⟨w.heap.size + 1 + 1, 0, none⟩) (by show _ ≤ w.heap.size + 1 + 1; omega) _), by simp [World.setCell]; omega, ?_, ?_, ?_, ?_⟩
  · exact (hk _ (by omega) (fun e => by have := hl _ e; omega) (by omega)).trans h.box
  · exact (hk _ (by omega) (fun e => by have := hl _ e; omega) (by omega)).trans h.res
  · have h1 := KSc.out_grown h hg
    simp [World.setCell, Array.getElem?_modify, h1]
  · rw [ht]
    exact (RG.push hown hv hP hx hQ hown4 hg hat).keep (by simp [World.setCell]) (fun b h1 h2 => Below.heap_setCell _ _ _ _ (by show b ≠ w.heap.size + 1 + 1; omega))
/-- A copy: the same schema, in memory that is there. -/
def KeptS (S : SchT) (w : World) (e : Ending) (w' : World) : Prop := ∃ c0 c1 c2, e = .returned (.agg #[c0, c1, c2]) ∧ TS w' (fun b => b < w'.heap.size) (encSch S) [c0, c1, c2] ∧ Below w.heap.size w w'
theorem cinfo_defn : ∃ i z, Try.prog.info? 32 = some i ∧ i.zero = some z ∧ i.size = 6 ∧ i.bytes = 120 ∧ z.cells.size = 6 := info_of (by kernel_rfl)
theorem KSc.start (w : World) (S : SchT) (A : Option Addr) (k : Nat) : KSc w S A k (.slice none 0 0) 0 (((w.alloc (.cells #[.slice A S.defs.length k, .string S.query, .string S.mutation] 24)).alloc (.cells #[.slice none 0 0, .string ⟨#[]⟩, .string ⟨#[]⟩] 24)).alloc (.cells #[.slice none 0 0, .string S.query, .string S.mutation] 24)) := by
  have e1 : (w.alloc (.cells #[.slice A S.defs.length k, .string S.query, .string S.mutation] 24)).heap.size = w.heap.size + 1 := by simp
  have e2 : ((w.alloc (.cells #[.slice A S.defs.length k, .string S.query, .string S.mutation] 24)).alloc (.cells #[.slice none 0 0, .string ⟨#[]⟩, .string ⟨#[]⟩] 24)).heap.size = w.heap.size + 1 + 1 := by simp
  refine ⟨(two_below w _ _).alloc (by rw [e2]; omega) _, by simp, ?_, ?_, ?_, by rw [List.take_zero]; exact RG.start _⟩
  · exact (Below.heap_alloc _ _ _ (by rw [e2]; omega)).trans ((Below.heap_alloc _ _ _ (by rw [e1]; omega)).trans (heap_alloc_new _ _))
  · exact (Below.heap_alloc _ _ _ (by rw [e2]; omega)).trans (heap_two _ _ _)
  · rw [← e2]; exact heap_alloc_new _ _
theorem KSc.rows {w W : World} {S : SchT} {A : Option Addr} {k : Nat} {V : Value} (h : KSc w S A k V S.defs.length W) : ∃ A' c, V = .slice A' S.defs.length c ∧ RowT W (fun b => (b < w.heap.size ∨ w.heap.size + 3 ≤ b) ∧ b < W.heap.size) (rowOf encDefn S.defs) A' := by
  have h1 := h.row
  rw [List.take_length] at h1
  exact h1.row
theorem ret_sch {R : Ending → World → Prop} {fn : Func} {a : Act} {W : World} {c0 c1 c2 : Value} {p b : Nat} (hf : fn.results = #[.cell p 24]) (h2 : a.tmps.getD p undef = .pointer (some ⟨b, 0, none⟩)) (hd : a.defers = [])
    (hc : W.heap[b]? = some (.cells #[c0, c1, c2] 24 (0, 0))) (hR : R (.returned (.agg #[c0, c1, c2])) W) : bodyPost Try.prog fn R .ret a W := by
  have hl : (loadVar 24 ⟨b, 0, none⟩).run Try.prog W = .ok (.agg #[c0, c1, c2]) W :=
    run_loadVar_row W b 24 24 #[c0, c1, c2] (0, 0) _ hc Try.underlying24 rfl (by kernel_rfl)
  refine bodyPost_ret ?_ hd hR
  have h2' : a.tmps[p]?.getD undef = .pointer (some ⟨b, 0, none⟩) := by rw [← h2]; simp
  simp [results, hf, h2', asAddr, hl]
theorem three_set {w : World} {b : Nat} {t : TypeId} {x0 x1 x2 c0 c1 c2 : Value} (h : w.heap[b]? = some (.cells #[x0, x1, x2] t (0, 0))) :
    (((w.setCell ⟨b, 0, none⟩ c0).setCell ⟨b, 1, none⟩ c1).setCell ⟨b, 2, none⟩ c2).heap[b]? = some (.cells #[c0, c1, c2] t (0, 0)) := by
  simp [World.setCell, Array.getElem?_modify, h]
theorem three_heap {w : World} {b k : Nat} {c0 c1 c2 : Value} (h : k ≠ b) : (((w.setCell ⟨b, 0, none⟩ c0).setCell ⟨b, 1, none⟩ c1).setCell ⟨b, 2, none⟩ c2).heap[k]? = w.heap[k]? :=
  (Below.heap_setCell _ _ _ _ h).trans ((Below.heap_setCell _ _ _ _ h).trans (Below.heap_setCell _ _ _ _ h))
theorem three_low {w0 w : World} {B b : Nat} {c0 c1 c2 : Value} (h : Below B w0 w) (hb : B ≤ b) : Below B w0 (((w.setCell ⟨b, 0, none⟩ c0).setCell ⟨b, 1, none⟩ c1).setCell ⟨b, 2, none⟩ c2) :=
  ((h.setCell hb _).setCell hb _).setCell hb _
theorem sch_ts {w : World} {P : Nat → Prop} {S : SchT} {A : Option Addr} {k : Nat} (h1 : S.query.size ≤ 9223372036854775807) (h2 : S.mutation.size ≤ 9223372036854775807) (h3 : S.defs.length ≤ 9223372036854775807) (h4 : RowT w P (rowOf encDefn S.defs) A) :
    TS w P (encSch S) [.slice A S.defs.length k, .string S.query, .string S.mutation] := by
  unfold encSch
  simp only [TS, TP]
  exact ⟨_, _, rfl, ⟨A, k, by rw [rowOf_len], by rw [rowOf_len]; exact h3, h4⟩, _, _, rfl, ⟨rfl, h1⟩, _, _, rfl, ⟨rfl, h2⟩, rfl⟩
theorem sch_strs {w : World} {P : Nat → Prop} {S : SchT} {cs : List Value} (h : TS w P (encSch S) cs) : S.query.size ≤ 9223372036854775807 ∧ S.mutation.size ≤ 9223372036854775807 := by
  unfold encSch at h
  simp only [TS, TP] at h
  obtain ⟨_, _, _, _, _, _, _, ⟨_, h1⟩, _, _, _, ⟨_, h2⟩, _⟩ := h
  exact ⟨h1, h2⟩
set_option maxRecDepth 100000 in
set_option maxHeartbeats 8000000 in
theorem kschema_any (S : SchT) (c0 c1 c2 : Value) (w : World) (hz : SlimS S) (hd : ∀ d, d ∈ S.defs → ∀ f, f ∈ d.fields → ∀ x, x ∈ f.dirs → SlimM x.2) (hS : TS w (fun b => b < w.heap.size) (encSch S) [c0, c1, c2]) :
    Calls Try.prog 6 #[.agg #[c0, c1, c2]] w (KeptS S w) := by
  have HST := Lib.hid (sch_strs hS)
  obtain ⟨A, k, e, hl, hR⟩ := sch_cells hS
  injection e with e0 e
  injection e with e1 e
  injection e with e2 e
  subst e0 e1 e2
  obtain ⟨i6, z6, hi6, hz60, hz61, hz62, hz63⟩ := cinfo_fld
  obtain ⟨is, zs, his, hs0, hs1, hs2, hs3⟩ := cinfo_str
  obtain ⟨id, zd, hid, hd0, hd1, hd2, hd3⟩ := cinfo_defn
  have HR := Lib.hid hR
  have HZ := Lib.hid hz
  have HDP := Lib.hid hd
  have HL := Lib.hid hl
  have hln : S.defs.length * 120 ≤ 140737488355328 := hz.1
  clear e hS hz hd hR
  have K0 := Lib.hid (KSc.start w S A k)
  go_enter Try.func6, Try.ntmps6
  go_wp2_with fail
  go_loopg [4] S.defs.length (fun g i wx => ∃ q : Nat, q + g = S.defs.length ∧ i = .int .i64 q ∧ Aside (∃ V, KSc w S A k V q wx))
  case atStart => exact ⟨0, by omega, rfl, Blk.Aside.intro ⟨_, K0.out⟩⟩
  case round =>
    rename World => wo
    obtain ⟨q, hq, rfl, HX⟩ := hrel
    obtain ⟨V, hk⟩ := HX.out
    have HK := Lib.hid hk
    clear HX hk K0
    obtain ⟨x0, x1, x2⟩ := three_cells HK.out.box
    cases gk with
    | zero =>
      obtain rfl : q = S.defs.length := by omega
      obtain ⟨A6, c6, rfl, hr6⟩ := HK.out.rows
      have HR6 := Lib.hid hr6
      obtain ⟨y0, y1, y2⟩ := three_cells HK.out.out
      have hres := HK.out.res
      obtain ⟨r0, r1, r2⟩ := three_cells hres
      have u0 := cells_frozen hres 0
      have u1 := cells_frozen hres 1
      have u2 := cells_frozen hres 2
      clear hr6
      go_wp2_with fail
      refine ret_sch rfl rfl rfl (three_set hres) ?_
      exact ⟨_, _, _, rfl, sch_ts HST.out.1 HST.out.2 HL.out (RowT.keep (fun b hb => ⟨by simpa [World.setCell] using hb.2, three_heap (by rcases hb.1 with h | h <;> omega)⟩) _ _ HR6.out), three_low (b := w.heap.size + 1) HK.out.low (Nat.le_succ _)⟩
    | succ gg =>
      have hqn : q < S.defs.length := by omega
      have hqn' : (q : Int) < (S.defs.length : Int) := by omega
      obtain ⟨d, hd⟩ : ∃ x, S.defs[q]? = some x := ⟨_, List.getElem?_eq_getElem hqn⟩
      obtain ⟨b, p, d0, d1, d2, d3, d4, d5, rfl, hlt, ⟨g0, g1, g2, g3, g4, g5⟩, hT⟩ := defn_at (RowT.below HK.out.low HR.out) hd
      obtain ⟨Af, kf, Ax, kx, Ap, kp, Am, km, e, hdn, ⟨lf, hf⟩, ⟨lx, hx⟩, ⟨lp, hp⟩, lm, hm⟩ := defn_cells hT
      simp only [List.cons.injEq, and_true] at e
      obtain ⟨rfl, rfl, rfl, rfl, rfl, rfl⟩ := e
      have hkr := HK.out.low.size
      have hlt' : b < wo.heap.size := Nat.lt_of_lt_of_le hlt hkr
      have hmem := List.mem_of_getElem? hd
      have hsl := HZ.out.2 d hmem
      have HDF := Lib.hid (HDP.out d hmem)
      have HSL := Lib.hid hsl
      have HLL := Lib.hid (And.intro hdn (And.intro lf (And.intro lx (And.intro lp lm))))
      have HRW := Lib.hid (And.intro hf (And.intro hx (And.intro hp hm)))
      have HTK : Hid (S.defs.take (q + 1) = S.defs.take q ++ [d]) := Lib.hid (by rw [List.take_add_one, hd]; rfl)
      clear hT hd hlt hmem hf hx hp hm lf lp lm hsl hdn
      go_upto_region 6 with fail
      clear g0 g1 g2 g3 g4 g5 x0 x1 x2
      have KZ := Lib.hid (KDf.start wo d (.slice Af d.faces.length kf) (.slice Ax d.fields.length kx) (.slice Ap d.parts.length kp) (.slice Am d.params.length km))
      generalize wo.alloc (.cells #[.int .i64 d.kind, .string d.name, .slice Af d.faces.length kf, .slice Ax d.fields.length kx, .slice Ap d.parts.length kp, .slice Am d.params.length km] 32) = wz at KZ ⊢
      have hnf : d.fields.length * 96 ≤ 140737488355328 := HSL.out.2.1
      obtain ⟨⟨y0, y1, y2, y3, y4, y5⟩, _⟩ := six_cells KZ.out.box
      have hwz : w.heap.size ≤ wz.heap.size := Nat.le_trans hkr KZ.out.low.size
      have HRZ := Lib.hid (fun (wx : World) (h : Below wz.heap.size wz wx) => (KZ.out.low.trans (h.mono KZ.out.low.size)).mono hkr)
      go_wp2_with fail
      go_loopg [6, 7] d.fields.length (fun g2 v i wx => ∃ j : Nat, j + g2 = d.fields.length ∧ i = .int .i64 j ∧ Aside (Below wz.heap.size wz wx ∧ RG encField 46 6 w.heap.size wz.heap.size wx v j (d.fields.take j)))
      case atStart => exact ⟨0, by omega, rfl, Blk.Aside.intro ⟨Below.refl _ _, by rw [List.take_zero]; exact RG.start _⟩⟩
      case round =>
        obtain ⟨j, hj, rfl, HX⟩ := hrel
        obtain ⟨hb, hg⟩ := HX.out
        have HB := Lib.hid hb
        obtain ⟨Ao, co, rfl⟩ := hg.shape
        have HG := Lib.hid hg
        have KR := Lib.hid (KZ.out.next hb)
        clear HX hb hg y0 y1 y2 y3 y4 y5
        obtain ⟨⟨y0, y1, y2, y3, y4, y5⟩, v0, v1, v2, v3, v4, v5⟩ := six_cells KR.out.box
        cases gk with
        | zero =>
          obtain rfl : j = d.fields.length := by omega
          -- REGION13
          have KPM := Lib.hid (kparams_any d.params Am km wr (fun b => b < w.heap.size) (fun b h => Nat.lt_of_lt_of_le h (Nat.le_trans hwz HB.out.size)) HSL.out.2.2.2.1 (RowT.below (HRZ.out _ HB.out) HRW.out.2.2.2))
          go_wp2_with fail
          refine KPM.out.mono ?_
          rintro e w3 h3
          obtain ⟨A1, k1, rfl, hr1, hb1⟩ := cloned_row h3 (rowOf_len _ _) (fun b h => Nat.lt_of_lt_of_le h (Nat.le_trans hwz HB.out.size))
          have KR3 := Lib.hid (KR.out.next hb1)
          have R1 := Lib.hid hr1
          have B3 := Lib.hid (HB.out.trans (hb1.mono HB.out.size))
          have HG3 := HG.out.low hb1
          rw [List.take_length] at HG3
          obtain ⟨A0, k0, e0, hr0⟩ := HG3.row
          injection e0 with e0 _ e1
          subst e0 e1
          have R0 := Lib.hid hr0
          clear h3 hr1 hb1 KPM HG3 hr0 y0 y1 y2 y3 y4 y5 v0 v1 v2 v3 v4 v5
          obtain ⟨⟨y0, y1, y2, y3, y4, y5⟩, v0, v1, v2, v3, v4, v5⟩ := six_cells KR3.out.box
          go_upto_region 14 with fail
          clear y0 y1 y2 y3 y4 y5 v0 v1 v2 v3 v4 v5
          have KR4 := Lib.hid ((KR3.out.set3 (.slice Ao d.fields.length co)).set5 (.slice A1 d.params.length k1))
          have hDz := KZ.out.size
          have hDw : wo.heap.size < wr.heap.size := Nat.lt_of_lt_of_le hDz HB.out.size
          have B4 := Lib.hid (below_far hkr (c3 := .slice Ao d.fields.length co) (c5 := .slice A1 d.params.length k1) (HRZ.out _ B3.out))
          have R14 := Lib.hid (RowT.keep (P' := fun b => (b < w.heap.size ∨ wo.heap.size + 1 ≤ b) ∧ b < ((w3.setCell ⟨wo.heap.size, 3, none⟩ (.slice Ao d.fields.length co)).setCell ⟨wo.heap.size, 5, none⟩ (.slice A1 d.params.length k1)).heap.size) (fun b hb => two_far hkr ⟨hb.2.imp_right (fun h => by omega), hb.1⟩) _ _ R1.out)
          have R04 := Lib.hid (RowT.keep (P' := fun b => (b < w.heap.size ∨ wo.heap.size + 1 ≤ b) ∧ b < ((w3.setCell ⟨wo.heap.size, 3, none⟩ (.slice Ao d.fields.length co)).setCell ⟨wo.heap.size, 5, none⟩ (.slice A1 d.params.length k1)).heap.size) (fun b hb => two_far hkr ⟨hb.1.imp_right (fun h => by omega), hb.2⟩) _ _ R0.out)
          generalize (w3.setCell ⟨wo.heap.size, 3, none⟩ (.slice Ao d.fields.length co)).setCell ⟨wo.heap.size, 5, none⟩ (.slice A1 d.params.length k1) = w4 at KR4 B4 R14 R04 ⊢
          clear R0 R1 KR3 B3 KR HB HG
          obtain ⟨⟨_, _, z2, _, z4, _⟩, _⟩ := six_cells KR4.out.box
          refine wp_region_held_drew (S := fun _ => True) (by kernel_rfl) trivial (fun _ => ?_)
          refine wpAnyH_take (i := 0) (v := ?_) rfl (by kernel_rfl) (by kernel_rfl) (by kernel_rfl) (fun _ _ _ h => h) (Or.inl ⟨by rfl, ?_⟩) trivial ?_
          rotate_left
          · (intro w _; go_simp; try with_reducible rfl)
          try simp only [Act.put, List.getElem_toArray, List.getElem_cons_zero, List.setIfInBounds_toArray, List.set_cons_zero, List.set_cons_succ]
          refine wpAnyH_take (i := 3) (v := ?_) rfl (by kernel_rfl) (by kernel_rfl) (by kernel_rfl) (fun _ _ _ h => h) (Or.inl ⟨by rfl, ?_⟩) trivial ?_
          rotate_left
          · (intro w _; go_simp; try with_reducible rfl)
          try simp only [Act.put, List.getElem_toArray, List.getElem_cons_zero, List.getElem_cons_succ, List.setIfInBounds_toArray, List.set_cons_zero, List.set_cons_succ]
          refine wpAnyH_ready (rs := [1, 4]) (by kernel_rfl) (by simp) ?_
          refine AllReadyH.cons rfl (fun K hK => ?_) (AllReadyH.cons rfl (fun K hK => ?_) AllReadyH.nil)
          focus
            go_simp
            refine hK.out _ _ trivial (fun _ => ?_)
            clear hK K
            try simp only [Act.put, List.getElem_toArray, List.getElem_cons_zero, List.getElem_cons_succ, List.setIfInBounds_toArray, List.set_cons_zero, List.set_cons_succ]
            refine wpAnyH_ready (rs := [2, 4]) (by kernel_rfl) (by simp) ?_
            refine AllReadyH.cons rfl (fun K hK => ?_) (AllReadyH.cons rfl (fun K hK => ?_) AllReadyH.nil)
            focus
              refine step_append_clone rfl _ _ 28 rfl 9 is zs 1 16 Try.underlying28 his hs0 hs1 hs2 hs3 (by decide) len_str one_str d.faces (fun b => b < w.heap.size) Af kf rfl rfl (RowT.below B4.out.drew HRW.out.1) (fun b h => Nat.lt_of_lt_of_le h (Nat.le_trans hkr KR4.out.low.size)) HSL.out.1 (by have := HSL.out.1; unfold maxLen; omega) ?_
              intro A2 k2 w5 hr2 hb2
              have KR5 := Lib.hid (KR4.out.next (Below.trans (Below.drew (Below.refl _ _)) hb2))
              have R2 := Lib.hid hr2
              have B5 := Lib.hid (B4.out.trans ((Below.trans (Below.drew (Below.refl _ _)) hb2).mono (Nat.le_trans hkr KR4.out.low.size)))
              have D5 := Lib.hid (Below.trans (Below.drew (Below.refl w4.heap.size w4)) hb2)
              obtain ⟨⟨_, _, n2, _, n4, _⟩, _⟩ := six_cells KR5.out.box
              clear hr2 hb2 z2 z4
              refine hK.out _ _ trivial (fun _ => ?_)
              clear hK K
              try simp only [Act.put, List.getElem_toArray, List.getElem_cons_zero, List.getElem_cons_succ, List.setIfInBounds_toArray, List.set_cons_zero, List.set_cons_succ]
              refine wpAnyH_ready (rs := [4]) (by kernel_rfl) (by simp) ?_
              refine AllReadyH.cons rfl (fun K hK => ?_) AllReadyH.nil
              go_simp
              refine hK.out _ _ trivial (fun _ => ?_)
              clear hK K
              try simp only [Act.put, List.getElem_toArray, List.getElem_cons_zero, List.getElem_cons_succ, List.setIfInBounds_toArray, List.set_cons_zero, List.set_cons_succ]
            rotate_left 1
            focus
              go_simp
              refine hK.out _ _ trivial (fun _ => ?_)
              clear hK K
              try simp only [Act.put, List.getElem_toArray, List.getElem_cons_zero, List.getElem_cons_succ, List.setIfInBounds_toArray, List.set_cons_zero, List.set_cons_succ]
              refine wpAnyH_ready (rs := [2]) (by kernel_rfl) (by simp) ?_
              refine AllReadyH.cons rfl (fun K hK => ?_) AllReadyH.nil
              refine step_append_clone rfl _ _ 28 rfl 9 is zs 1 16 Try.underlying28 his hs0 hs1 hs2 hs3 (by decide) len_str one_str d.faces (fun b => b < w.heap.size) Af kf rfl rfl (RowT.below B4.out.drew HRW.out.1) (fun b h => Nat.lt_of_lt_of_le h (Nat.le_trans hkr KR4.out.low.size)) HSL.out.1 (by have := HSL.out.1; unfold maxLen; omega) ?_
              intro A2 k2 w5 hr2 hb2
              have KR5 := Lib.hid (KR4.out.next (Below.trans (Below.drew (Below.refl _ _)) hb2))
              have R2 := Lib.hid hr2
              have B5 := Lib.hid (B4.out.trans ((Below.trans (Below.drew (Below.refl _ _)) hb2).mono (Nat.le_trans hkr KR4.out.low.size)))
              have D5 := Lib.hid (Below.trans (Below.drew (Below.refl w4.heap.size w4)) hb2)
              obtain ⟨⟨_, _, n2, _, n4, _⟩, _⟩ := six_cells KR5.out.box
              clear hr2 hb2 z2 z4
              refine hK.out _ _ trivial (fun _ => ?_)
              clear hK K
              try simp only [Act.put, List.getElem_toArray, List.getElem_cons_zero, List.getElem_cons_succ, List.setIfInBounds_toArray, List.set_cons_zero, List.set_cons_succ]
          rotate_left 2
          focus
            go_simp
            refine hK.out _ _ trivial (fun _ => ?_)
            clear hK K
            try simp only [Act.put, List.getElem_toArray, List.getElem_cons_zero, List.getElem_cons_succ, List.setIfInBounds_toArray, List.set_cons_zero, List.set_cons_succ]
            refine wpAnyH_ready (rs := [1]) (by kernel_rfl) (by simp) ?_
            refine AllReadyH.cons rfl (fun K hK => ?_) AllReadyH.nil
            go_simp
            refine hK.out _ _ trivial (fun _ => ?_)
            clear hK K
            try simp only [Act.put, List.getElem_toArray, List.getElem_cons_zero, List.getElem_cons_succ, List.setIfInBounds_toArray, List.set_cons_zero, List.set_cons_succ]
            refine wpAnyH_ready (rs := [2]) (by kernel_rfl) (by simp) ?_
            refine AllReadyH.cons rfl (fun K hK => ?_) AllReadyH.nil
            refine step_append_clone rfl _ _ 28 rfl 9 is zs 1 16 Try.underlying28 his hs0 hs1 hs2 hs3 (by decide) len_str one_str d.faces (fun b => b < w.heap.size) Af kf rfl rfl (RowT.below B4.out.drew HRW.out.1) (fun b h => Nat.lt_of_lt_of_le h (Nat.le_trans hkr KR4.out.low.size)) HSL.out.1 (by have := HSL.out.1; unfold maxLen; omega) ?_
            intro A2 k2 w5 hr2 hb2
            have KR5 := Lib.hid (KR4.out.next (Below.trans (Below.drew (Below.refl _ _)) hb2))
            have R2 := Lib.hid hr2
            have B5 := Lib.hid (B4.out.trans ((Below.trans (Below.drew (Below.refl _ _)) hb2).mono (Nat.le_trans hkr KR4.out.low.size)))
            have D5 := Lib.hid (Below.trans (Below.drew (Below.refl w4.heap.size w4)) hb2)
            obtain ⟨⟨_, _, n2, _, n4, _⟩, _⟩ := six_cells KR5.out.box
            clear hr2 hb2 z2 z4
            refine hK.out _ _ trivial (fun _ => ?_)
            clear hK K
            try simp only [Act.put, List.getElem_toArray, List.getElem_cons_zero, List.getElem_cons_succ, List.setIfInBounds_toArray, List.set_cons_zero, List.set_cons_succ]
          all_goals
            refine wpAnyH_take (i := 6) (v := ?_) rfl (by kernel_rfl) (by kernel_rfl) (by kernel_rfl) (fun _ _ _ h => h) (Or.inl ⟨by rfl, ?_⟩) trivial ?_
            rotate_left
            · (intro w _; go_simp; try with_reducible rfl)
            try simp only [Act.put, List.getElem_toArray, List.getElem_cons_zero, List.getElem_cons_succ, List.setIfInBounds_toArray, List.set_cons_zero, List.set_cons_succ]
            refine wpAnyH_ready (rs := [5]) (by kernel_rfl) (by simp) ?_
            refine AllReadyH.cons rfl (fun K hK => ?_) AllReadyH.nil
            refine step_append_clone rfl _ _ 28 rfl 9 is zs 1 16 Try.underlying28 his hs0 hs1 hs2 hs3 (by decide) len_str one_str d.parts (fun b => b < w.heap.size) Ap kp rfl rfl (RowT.below B5.out HRW.out.2.2.1) (fun b h => Nat.lt_of_lt_of_le h (Nat.le_trans hkr KR5.out.low.size)) HSL.out.2.2.1 (by have := HSL.out.2.2.1; unfold maxLen; omega) ?_
            intro A3 k3 w6 hr3 hb3
            have KR6 := Lib.hid (KR5.out.next hb3)
            have R3 := Lib.hid hr3
            have D6 := Lib.hid hb3
            obtain ⟨⟨_, _, m2, _, m4, _⟩, _, _, q2, _, q4, _⟩ := six_cells KR6.out.box
            clear hr3 hb3 n2 n4
            refine hK.out _ _ trivial (fun _ => ?_)
            clear hK K
            try simp only [Act.put, List.getElem_toArray, List.getElem_cons_zero, List.getElem_cons_succ, List.setIfInBounds_toArray, List.set_cons_zero, List.set_cons_succ]
            refine wpAnyH_ready (rs := [7]) (by kernel_rfl) (by simp) ?_
            refine AllReadyH.cons rfl (fun K hK => ?_) AllReadyH.nil
            go_simp
            refine hK.out _ _ trivial (fun _ => ?_)
            clear hK K
            try simp only [Act.put, List.getElem_toArray, List.getElem_cons_zero, List.getElem_cons_succ, List.setIfInBounds_toArray, List.set_cons_zero, List.set_cons_succ]
            refine wpAnyH_take (i := 8) (v := ?_) rfl (by kernel_rfl) (by kernel_rfl) (by kernel_rfl) (fun _ _ _ h => h) (Or.inl ⟨by rfl, ?_⟩) trivial ?_
            rotate_left
            · (intro w _; go_simp; try with_reducible rfl)
            try simp only [Act.put, List.getElem_toArray, List.getElem_cons_zero, List.getElem_cons_succ, List.setIfInBounds_toArray, List.set_cons_zero, List.set_cons_succ]
            refine wpAnyH_ready (rs := [9]) (by kernel_rfl) (by simp) ?_
            refine AllReadyH.cons rfl (fun K hK => ?_) AllReadyH.nil
            go_simp
            refine hK.out _ _ trivial (fun _ => ?_)
            clear hK K
            try simp only [Act.put, List.getElem_toArray, List.getElem_cons_zero, List.getElem_cons_succ, List.setIfInBounds_toArray, List.set_cons_zero, List.set_cons_succ]
            refine wpAnyH_done (by kernel_rfl) ?_ _
            have K8 := Lib.hid ((KR6.out.set2 (.slice A2 d.faces.length k2)).set4 (.slice A3 d.parts.length k3))
            have T8 := Lib.hid (dfn_done KR4.out.size hkr HLL.out.1 HLL.out.2.1 HLL.out.2.2.1 HLL.out.2.2.2.1 HLL.out.2.2.2.2 R2.out R04.out R3.out R14.out D5.out D6.out (k1 := k1) (k2 := k2) (k3 := k3) (k4 := co))
            generalize (w6.setCell ⟨wo.heap.size, 2, none⟩ (.slice A2 d.faces.length k2)).setCell ⟨wo.heap.size, 4, none⟩ (.slice A3 d.parts.length k3) = w8 at K8 T8 ⊢
            clear m2 m4 q2 q4 KR4 KR5 KR6 R2 R3 R14 R04 B4 B5 D5 D6
            have KS8 := Lib.hid (HK.out.next K8.out.low)
            obtain ⟨xs, P, hown, hvals, hP⟩ := KS8.out.row
            have HO := Lib.hid hown
            have HV := Lib.hid hvals
            have HP := Lib.hid hP
            have hw8 := KS8.out.size
            have hV := (HK.out.row).own_lt
            have HVL := Lib.hid hV
            obtain ⟨⟨m0, m1, m2, m3, m4, m5⟩, _⟩ := six_cells K8.out.box
            obtain ⟨x0, _, _⟩ := three_cells KS8.out.out
            clear hown hvals hP hV
            go_wp2_with (at_builtin; go_loud (refine wpList_append_lies _ rfl _ _ 22 rfl (w.heap.size + 3) 32 id zd 6 120 Try.underlying22 hid hd0 hd1 hd2 hd3 (by decide) V q xs rfl (HO.out.alloc _) _ 1 1 [.int .i64 d.kind, .string d.name, .slice A2 d.faces.length k2, .slice Ao d.fields.length co, .slice A3 d.parts.length k3, .slice A1 d.params.length k1] rfl rfl (six_newc _ _ _ _ _ _ _ _ (by first | rfl | (simp; done))) (by intro y hy; simp at hy; rcases hy with rfl | rfl | rfl | rfl | rfl | rfl <;> rfl) (by decide) (by unfold maxLen; omega) (by omega) (by simp; omega) _ rfl ?_; intro g6 cap6 w9 hown9 hgrow hat hlt9; have HG9 := Lib.hid hgrow; have HO9 := Lib.hid hown9; have HT9 := Lib.hid hat; have hx9 := KSc.out_grown KS8.out hgrow; obtain ⟨x0', _, _⟩ := three_cells hx9; have u0' := cells_frozen hx9 0; clear hgrow hown9 hat x0 m0 m1 m2 m3 m4 m5))
            go_roundg gg
            case measure => omega
            case rel =>
              exact ⟨q + 1, by omega, by go_num, Blk.Aside.intro ⟨_, KSc.push KS8.out HTK.out HO.out HV.out HP.out T8.out (fun b hb => ⟨hb.1.imp_right (fun h => by have := HK.out.size; omega), hb.2, fun e => by have := HVL.out b e; have := hb.1; have := HK.out.size; omega⟩) HO9.out HG9.out HT9.out⟩⟩
          -- END13
        | succ g2 =>
          have hjn : j < d.fields.length := by omega
          have hjn' : (j : Int) < (d.fields.length : Int) := by omega
          obtain ⟨x, hx⟩ : ∃ x, d.fields[j]? = some x := ⟨_, List.getElem?_eq_getElem hjn⟩
          have hbw := HRZ.out _ HB.out
          obtain ⟨b2, p2, e0, e1, e2, e3, e4, e5, rfl, hlt2, ⟨f0, f1, f2, f3, f4, f5⟩, hT2⟩ := field_at (RowT.below hbw HRW.out.2.1) hx
          obtain ⟨Bp, cp, Bd, cd, e, hfn, ⟨l1, h1⟩, l5, h5⟩ := fld_cells hT2
          simp only [List.cons.injEq, and_true] at e
          obtain ⟨rfl, rfl, rfl, rfl, rfl, rfl⟩ := e
          have hws := Nat.le_trans hwz HB.out.size
          have hlt2' : b2 < wr.heap.size := Nat.lt_of_lt_of_le hlt2 hws
          have hmem := List.mem_of_getElem? hx
          have hsf := HSL.out.2.2.2.2 x hmem
          have hdf := HDF.out x hmem
          have HTK2 : Hid (d.fields.take (j + 1) = d.fields.take j ++ [x]) := Lib.hid (by rw [List.take_add_one, hx]; rfl)
          have HFL := Lib.hid (And.intro hfn (And.intro l1 l5))
          have KP := fun (wx : World) (hb : Below wr.heap.size wr wx) => Lib.hid (kparams_any x.params Bp cp wx (fun b => b < w.heap.size) (fun b h => Nat.lt_of_lt_of_le h (Nat.le_trans hws hb.size)) hsf.1 (RowT.below (hb.mono hws) h1))
          have KDD := fun (wx : World) (hb : Below wr.heap.size wr wx) => Lib.hid (kdirs_any x.dirs Bd cd wx w.heap.size (Nat.le_trans hws hb.size) hsf.2.1 (fun y hy => ⟨hsf.2.2 y hy, hdf y hy⟩) (RowT.below (hb.mono hws) h5))
          clear hT2 hx hlt2 hmem hfn l1 l5 h1 h5 hbw
          go_upto_region 11 with fail
          clear f0 f1 f2 f3 f4 f5 y0 y1 y2 y3 y4 y5 v0 v1 v2 v3 v4 v5
          -- REGION11
          have KF0 := Lib.hid (KF.start wr x (.slice Bp x.params.length cp) (.slice Bd x.dirs.length cd))
          generalize wr.alloc (.cells #[.string x.name, .slice Bp x.params.length cp, .string x.tn, .int .i64 x.tl, .int .i64 x.tm, .slice Bd x.dirs.length cd] 46) = wf at KF0 ⊢
          obtain ⟨⟨_, z1, _, _, _, z5⟩, _⟩ := six_cells KF0.out.box
          refine wp_region_held_drew (S := fun _ => True) (by kernel_rfl) trivial (fun _ => ?_)
          refine wpAnyH_take (i := 0) (v := ?_) rfl (by kernel_rfl) (by kernel_rfl) (by kernel_rfl) (fun _ _ _ h => h) (Or.inl ⟨by rfl, ?_⟩) trivial ?_
          rotate_left
          · (intro w _; go_simp; try with_reducible rfl)
          try simp only [Act.put, List.getElem_toArray, List.getElem_cons_zero, List.setIfInBounds_toArray, List.set_cons_zero, List.set_cons_succ]
          refine wpAnyH_take (i := 3) (v := ?_) rfl (by kernel_rfl) (by kernel_rfl) (by kernel_rfl) (fun _ _ _ h => h) (Or.inl ⟨by rfl, ?_⟩) trivial ?_
          rotate_left
          · (intro w _; go_simp; try with_reducible rfl)
          try simp only [Act.put, List.getElem_toArray, List.getElem_cons_zero, List.getElem_cons_succ, List.setIfInBounds_toArray, List.set_cons_zero, List.set_cons_succ]
          refine wpAnyH_ready (rs := [1, 4]) (by kernel_rfl) (by simp) ?_
          refine AllReadyH.cons rfl (fun K hK => ?_) (AllReadyH.cons rfl (fun K hK => ?_) AllReadyH.nil)
          focus
            go_simp
            refine hK.out _ _ trivial (fun _ => ?_)
            clear hK K
            try simp only [Act.put, List.getElem_toArray, List.getElem_cons_zero, List.getElem_cons_succ, List.setIfInBounds_toArray, List.set_cons_zero, List.set_cons_succ]
            refine wpAnyH_ready (rs := [2, 4]) (by kernel_rfl) (by simp) ?_
            refine AllReadyH.cons rfl (fun K hK => ?_) (AllReadyH.cons rfl (fun K hK => ?_) AllReadyH.nil)
            focus
              go_simp
              go_at_call 25
              refine (KP _ KF0.out.low.drew).out.mono ?_
              rintro e w3 h3
              obtain ⟨A1, k1, rfl, hr1, hb1⟩ := cloned_row h3 (rowOf_len _ _) (fun b h => Nat.lt_of_lt_of_le h (Nat.le_trans hws KF0.out.low.size))
              have KF3 := Lib.hid (KF0.out.next (Below.trans (Below.drew (Below.refl _ _)) hb1))
              have R1 := Lib.hid hr1
              obtain ⟨⟨_, n1, _, _, _, n5⟩, _⟩ := six_cells KF3.out.box
              clear h3 hr1 hb1 KP z1 z5
              go_wp2_with fail
              refine hK.out _ _ trivial (fun _ => ?_)
              clear hK K
              try simp only [Act.put, List.getElem_toArray, List.getElem_cons_zero, List.getElem_cons_succ, List.setIfInBounds_toArray, List.set_cons_zero, List.set_cons_succ]
              refine wpAnyH_ready (rs := [4]) (by kernel_rfl) (by simp) ?_
              refine AllReadyH.cons rfl (fun K hK => ?_) AllReadyH.nil
              go_simp
              refine hK.out _ _ trivial (fun _ => ?_)
              clear hK K
              try simp only [Act.put, List.getElem_toArray, List.getElem_cons_zero, List.getElem_cons_succ, List.setIfInBounds_toArray, List.set_cons_zero, List.set_cons_succ]
            rotate_left 1
            focus
              go_simp
              refine hK.out _ _ trivial (fun _ => ?_)
              clear hK K
              try simp only [Act.put, List.getElem_toArray, List.getElem_cons_zero, List.getElem_cons_succ, List.setIfInBounds_toArray, List.set_cons_zero, List.set_cons_succ]
              refine wpAnyH_ready (rs := [2]) (by kernel_rfl) (by simp) ?_
              refine AllReadyH.cons rfl (fun K hK => ?_) AllReadyH.nil
              go_simp
              go_at_call 25
              refine (KP _ KF0.out.low.drew).out.mono ?_
              rintro e w3 h3
              obtain ⟨A1, k1, rfl, hr1, hb1⟩ := cloned_row h3 (rowOf_len _ _) (fun b h => Nat.lt_of_lt_of_le h (Nat.le_trans hws KF0.out.low.size))
              have KF3 := Lib.hid (KF0.out.next (Below.trans (Below.drew (Below.refl _ _)) hb1))
              have R1 := Lib.hid hr1
              obtain ⟨⟨_, n1, _, _, _, n5⟩, _⟩ := six_cells KF3.out.box
              clear h3 hr1 hb1 KP z1 z5
              go_wp2_with fail
              refine hK.out _ _ trivial (fun _ => ?_)
              clear hK K
              try simp only [Act.put, List.getElem_toArray, List.getElem_cons_zero, List.getElem_cons_succ, List.setIfInBounds_toArray, List.set_cons_zero, List.set_cons_succ]
          rotate_left 2
          focus
            go_simp
            refine hK.out _ _ trivial (fun _ => ?_)
            clear hK K
            try simp only [Act.put, List.getElem_toArray, List.getElem_cons_zero, List.getElem_cons_succ, List.setIfInBounds_toArray, List.set_cons_zero, List.set_cons_succ]
            refine wpAnyH_ready (rs := [1]) (by kernel_rfl) (by simp) ?_
            refine AllReadyH.cons rfl (fun K hK => ?_) AllReadyH.nil
            go_simp
            refine hK.out _ _ trivial (fun _ => ?_)
            clear hK K
            try simp only [Act.put, List.getElem_toArray, List.getElem_cons_zero, List.getElem_cons_succ, List.setIfInBounds_toArray, List.set_cons_zero, List.set_cons_succ]
            refine wpAnyH_ready (rs := [2]) (by kernel_rfl) (by simp) ?_
            refine AllReadyH.cons rfl (fun K hK => ?_) AllReadyH.nil
            go_simp
            go_at_call 25
            refine (KP _ KF0.out.low.drew).out.mono ?_
            rintro e w3 h3
            obtain ⟨A1, k1, rfl, hr1, hb1⟩ := cloned_row h3 (rowOf_len _ _) (fun b h => Nat.lt_of_lt_of_le h (Nat.le_trans hws KF0.out.low.size))
            have KF3 := Lib.hid (KF0.out.next (Below.trans (Below.drew (Below.refl _ _)) hb1))
            have R1 := Lib.hid hr1
            obtain ⟨⟨_, n1, _, _, _, n5⟩, _⟩ := six_cells KF3.out.box
            clear h3 hr1 hb1 KP z1 z5
            go_wp2_with fail
            refine hK.out _ _ trivial (fun _ => ?_)
            clear hK K
            try simp only [Act.put, List.getElem_toArray, List.getElem_cons_zero, List.getElem_cons_succ, List.setIfInBounds_toArray, List.set_cons_zero, List.set_cons_succ]
          all_goals
            refine wpAnyH_take (i := 6) (v := ?_) rfl (by kernel_rfl) (by kernel_rfl) (by kernel_rfl) (fun _ _ _ h => h) (Or.inl ⟨by rfl, ?_⟩) trivial ?_
            rotate_left
            · (intro w _; go_simp; try with_reducible rfl)
            try simp only [Act.put, List.getElem_toArray, List.getElem_cons_zero, List.getElem_cons_succ, List.setIfInBounds_toArray, List.set_cons_zero, List.set_cons_succ]
            refine wpAnyH_ready (rs := [5]) (by kernel_rfl) (by simp) ?_
            refine AllReadyH.cons rfl (fun K hK => ?_) AllReadyH.nil
            go_simp
            go_at_call 26
            refine (KDD _ KF3.out.low).out.mono ?_
            rintro e w4 ⟨A3, k3, rfl, hr3, hb3⟩
            have KF4 := Lib.hid (KF3.out.next hb3)
            have R3 := Lib.hid hr3
            have B4 := Lib.hid hb3
            obtain ⟨⟨_, m1, _, _, _, m5⟩, _, q1, _, _, _, q5⟩ := six_cells KF4.out.box
            clear hr3 hb3 KDD n1 n5
            go_wp2_with fail
            refine hK.out _ _ trivial (fun _ => ?_)
            clear hK K
            try simp only [Act.put, List.getElem_toArray, List.getElem_cons_zero, List.getElem_cons_succ, List.setIfInBounds_toArray, List.set_cons_zero, List.set_cons_succ]
            refine wpAnyH_ready (rs := [7]) (by kernel_rfl) (by simp) ?_
            refine AllReadyH.cons rfl (fun K hK => ?_) AllReadyH.nil
            go_simp
            refine hK.out _ _ trivial (fun _ => ?_)
            clear hK K
            try simp only [Act.put, List.getElem_toArray, List.getElem_cons_zero, List.getElem_cons_succ, List.setIfInBounds_toArray, List.set_cons_zero, List.set_cons_succ]
            refine wpAnyH_take (i := 8) (v := ?_) rfl (by kernel_rfl) (by kernel_rfl) (by kernel_rfl) (fun _ _ _ h => h) (Or.inl ⟨by rfl, ?_⟩) trivial ?_
            rotate_left
            · (intro w _; go_simp; try with_reducible rfl)
            try simp only [Act.put, List.getElem_toArray, List.getElem_cons_zero, List.getElem_cons_succ, List.setIfInBounds_toArray, List.set_cons_zero, List.set_cons_succ]
            refine wpAnyH_ready (rs := [9]) (by kernel_rfl) (by simp) ?_
            refine AllReadyH.cons rfl (fun K hK => ?_) AllReadyH.nil
            go_simp
            refine hK.out _ _ trivial (fun _ => ?_)
            clear hK K
            try simp only [Act.put, List.getElem_toArray, List.getElem_cons_zero, List.getElem_cons_succ, List.setIfInBounds_toArray, List.set_cons_zero, List.set_cons_succ]
            refine wpAnyH_done (by kernel_rfl) ?_ _
            have K5 := Lib.hid ((KF4.out.set1 (.slice A1 x.params.length k1)).set5 (.slice A3 x.dirs.length k3))
            have T5 := Lib.hid (fld_done KF0.out KF3.out.size HFL.out.1 HFL.out.2.1 HFL.out.2.2 R1.out R3.out B4.out (k1 := k1) (k3 := k3) hws)
            generalize (w4.setCell ⟨wr.heap.size, 1, none⟩ (.slice A1 x.params.length k1)).setCell ⟨wr.heap.size, 5, none⟩ (.slice A3 x.dirs.length k3) = w5 at K5 T5 ⊢
            clear m1 m5 q1 q5 KF3 KF4 R1 R3 B4 KF0
            obtain ⟨xs, P, hown, hvals, hP⟩ := HG.out.low K5.out.low
            have HO := Lib.hid hown
            have HV := Lib.hid hvals
            have HP := Lib.hid hP
            have hw5 := K5.out.low.size
            obtain ⟨⟨m0, m1, m2, m3, m4, m5⟩, _⟩ := six_cells K5.out.box
            have hzr := HB.out.size
            clear hown hvals hP
            go_wp2_with (at_builtin; go_loud (refine wpList_append_lies _ rfl _ _ 29 rfl wz.heap.size 46 i6 z6 6 96 Try.underlying29 hi6 hz60 hz61 hz62 hz63 (by decide) _ j xs rfl (HO.out.alloc _) _ 1 1 [.string x.name, .slice A1 x.params.length k1, .string x.tn, .int .i64 x.tl, .int .i64 x.tm, .slice A3 x.dirs.length k3] rfl rfl (six_newc _ _ _ _ _ _ _ _ (by first | rfl | (simp; done))) (by intro y hy; simp at hy; rcases hy with rfl | rfl | rfl | rfl | rfl | rfl <;> rfl) (by decide) (by unfold maxLen; omega) (by omega) (by simp; omega) _ rfl ?_; intro g6 cap6 w6 hown6 hgrow hat hlt6; have HG6 := Lib.hid hgrow; have HO6 := Lib.hid hown6; have HT6 := Lib.hid hat; clear hgrow hown6 hat))
            go_roundg g2
            case measure => omega
            case rel =>
              refine ⟨j + 1, by omega, by go_num, Blk.Aside.intro ⟨?_, ?_⟩⟩
              · exact (((HB.out.trans (K5.out.low.mono hzr)).alloc (by omega) _).grown HG6.out (by simp; omega) (fun k hk => (HO.out.lt k hk).1))
              · rw [HTK2.out]
                have HOW := HG.out.own_lt
                exact RG.push HO.out HV.out HP.out T5.out (fun b hb => ⟨hb.1.imp_right (fun h => by omega), hb.2, fun e => by have := HOW b e; have := hb.1; omega⟩) HO6.out HG6.out HT6.out
          -- END11
end Go.Proofs.Ytmamgaifpjgfkaa
