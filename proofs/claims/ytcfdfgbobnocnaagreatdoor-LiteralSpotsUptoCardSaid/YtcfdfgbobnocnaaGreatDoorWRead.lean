/- The landed reader of a type's text, as plain lists of bytes: it reads what may be printed, and nothing else; so does the document's own. -/
import Derived.Test.YtcfdfgbobnocnaaGreatDoorDfEachF
import Derived.Test.YtcfdfgbobnocnaaGreatDoorCodes
namespace Go.Proofs.YtcfdfgbobnocnaaGreatDoor
open Go.RowKit

theorem defn_ts {w : World} {P : Nat → Prop} {x : DefnT} {Af Ax Ap Am : Option Addr} {kf kx kp km : Nat} (h0 : x.name.size ≤ 9223372036854775807) (l1 : x.faces.length ≤ 9223372036854775807) (l2 : x.fields.length ≤ 9223372036854775807) (l3 : x.parts.length ≤ 9223372036854775807) (l4 : x.params.length ≤ 9223372036854775807)
    (h1 : RowT w P (rowOf encStr x.faces) Af) (h2 : RowT w P (rowOf encField x.fields) Ax) (h3 : RowT w P (rowOf encStr x.parts) Ap) (h4 : RowT w P (rowOf encVar x.params) Am) :
    TS w P (encDefn x) [.int .i64 x.kind, .string x.name, .slice Af x.faces.length kf, .slice Ax x.fields.length kx, .slice Ap x.parts.length kp, .slice Am x.params.length km] := by
  simp only [encDefn, TS, TP]
  exact ⟨_, _, rfl, ⟨rfl, trivial⟩, _, _, rfl, ⟨rfl, h0⟩, _, _, rfl, ⟨Af, kf, by rw [rowOf_len], by rw [rowOf_len]; exact l1, h1⟩, _, _, rfl, ⟨Ax, kx, by rw [rowOf_len], by rw [rowOf_len]; exact l2, h2⟩, _, _, rfl, ⟨Ap, kp, by rw [rowOf_len], by rw [rowOf_len]; exact l3, h3⟩, _, _, rfl, ⟨Am, km, by rw [rowOf_len], by rw [rowOf_len]; exact l4, h4⟩, rfl⟩
theorem ret_dfn {R : Ending → World → Prop} {fn : Func} {a : Act} {W : World} {c0 c1 c2 c3 c4 c5 : Value} {p b : Nat} (hf : fn.results = #[.cell p 65]) (h2 : a.tmps.getD p undef = .pointer (some ⟨b, 0, none⟩)) (hd : a.defers = [])
    (hc : W.heap[b]? = some (.cells #[c0, c1, c2, c3, c4, c5] 65 (0, 0))) (hR : R (.returned (.agg #[c0, c1, c2, c3, c4, c5])) W) : bodyPost Tryz.prog fn R .ret a W := by
  have hl : (loadVar 65 ⟨b, 0, none⟩).run Tryz.prog W = .ok (.agg #[c0, c1, c2, c3, c4, c5]) W :=
    run_loadVar_row W b 65 65 #[c0, c1, c2, c3, c4, c5] (0, 0) _ hc Tryz.underlying65 rfl (by kernel_rfl)
  refine bodyPost_ret ?_ hd hR
  have h2' : a.tmps[p]?.getD undef = .pointer (some ⟨b, 0, none⟩) := by rw [← h2]; simp
  simp [results, hf, h2', asAddr, hl]
/-- A definition of one's own. -/
def OwnDf (x : DefnT) (P : Nat → Prop) (w : World) (e : Ending) (w' : World) : Prop := ∃ Af kf Ax kx Ap kp Am km, e = .returned (.agg #[.int .i64 x.kind, .string x.name, .slice Af x.faces.length kf, .slice Ax x.fields.length kx, .slice Ap x.parts.length kp, .slice Am x.params.length km]) ∧
  TS w' (OwnP P w.heap.size w') (encDefn x) [.int .i64 x.kind, .string x.name, .slice Af x.faces.length kf, .slice Ax x.fields.length kx, .slice Ap x.parts.length kp, .slice Am x.params.length km] ∧ Below w.heap.size w w'
/-- What is kept while a box is filled: the box, the result's cells, the rows that were made. -/
structure BoxD (w : World) (P : Nat → Prop) (x : DefnT) (c2 c3 c4 c5 : Value) (W : World) : Prop where
  low : Below w.heap.size w W
  size : w.heap.size + 2 ≤ W.heap.size
  box : W.heap[w.heap.size]? = some (.cells #[.int .i64 x.kind, .string x.name, c2, c3, c4, c5] 65 (0, 0))
  res : W.heap[w.heap.size + 1]? = some (.cells #[.int .i64 0, .string ⟨#[]⟩, .slice none 0 0, .slice none 0 0, .slice none 0 0, .slice none 0 0] 65 (0, 0))
theorem BoxD.next {w W W' : World} {P : Nat → Prop} {x : DefnT} {c2 c3 c4 c5 : Value} (h : BoxD w P x c2 c3 c4 c5 W) (hb : Below W.heap.size W W') : BoxD w P x c2 c3 c4 c5 W' := by
  have hs := h.size
  exact ⟨h.low.trans (hb.mono h.low.size), Nat.le_trans h.size hb.size, (hb.block _ (by omega)).trans h.box, (hb.block _ (by omega)).trans h.res⟩
theorem BoxD.set2 {w W : World} {P : Nat → Prop} {x : DefnT} {c2 c3 c4 c5 : Value} (h : BoxD w P x c2 c3 c4 c5 W) (v : Value) : BoxD w P x v c3 c4 c5 (W.setCell ⟨w.heap.size, 2, none⟩ v) :=
  ⟨h.low.setCell (p := ⟨w.heap.size, 2, none⟩) (Nat.le_refl _) v, by simpa [World.setCell] using h.size, by simp [World.setCell, Array.getElem?_modify, h.box], (Below.heap_setCell _ _ _ _ (Nat.succ_ne_self _)).trans h.res⟩
theorem BoxD.set3 {w W : World} {P : Nat → Prop} {x : DefnT} {c2 c3 c4 c5 : Value} (h : BoxD w P x c2 c3 c4 c5 W) (v : Value) : BoxD w P x c2 v c4 c5 (W.setCell ⟨w.heap.size, 3, none⟩ v) :=
  ⟨h.low.setCell (p := ⟨w.heap.size, 3, none⟩) (Nat.le_refl _) v, by simpa [World.setCell] using h.size, by simp [World.setCell, Array.getElem?_modify, h.box], (Below.heap_setCell _ _ _ _ (Nat.succ_ne_self _)).trans h.res⟩
theorem BoxD.set4 {w W : World} {P : Nat → Prop} {x : DefnT} {c2 c3 c4 c5 : Value} (h : BoxD w P x c2 c3 c4 c5 W) (v : Value) : BoxD w P x c2 c3 v c5 (W.setCell ⟨w.heap.size, 4, none⟩ v) :=
  ⟨h.low.setCell (p := ⟨w.heap.size, 4, none⟩) (Nat.le_refl _) v, by simpa [World.setCell] using h.size, by simp [World.setCell, Array.getElem?_modify, h.box], (Below.heap_setCell _ _ _ _ (Nat.succ_ne_self _)).trans h.res⟩
theorem BoxD.set5 {w W : World} {P : Nat → Prop} {x : DefnT} {c2 c3 c4 c5 : Value} (h : BoxD w P x c2 c3 c4 c5 W) (v : Value) : BoxD w P x c2 c3 c4 v (W.setCell ⟨w.heap.size, 5, none⟩ v) :=
  ⟨h.low.setCell (p := ⟨w.heap.size, 5, none⟩) (Nat.le_refl _) v, by simpa [World.setCell] using h.size, by simp [World.setCell, Array.getElem?_modify, h.box], (Below.heap_setCell _ _ _ _ (Nat.succ_ne_self _)).trans h.res⟩
theorem RowT.boxed {P : Nat → Prop} {w W : World} {l : TrL} {A : Option Addr} {j : Nat} {v : Value} (hP : ∀ b, P b → b < w.heap.size) (h : RowT W (OwnP P (w.heap.size + 2) W) l A) : RowT (W.setCell ⟨w.heap.size, j, none⟩ v) (OwnP P (w.heap.size + 2) (W.setCell ⟨w.heap.size, j, none⟩ v)) l A :=
  h.own (by simp [World.setCell]) (Nat.le_refl _) (fun b hb => Below.heap_setCell _ _ _ _ (hb.ne (g := w.heap.size) hP (Nat.lt_add_of_pos_right (by decide))))
theorem RowT.after {P : Nat → Prop} {K : Nat} {w W : World} {l : TrL} {A : Option Addr} (h : RowT w (OwnP P K w) l A) (hb : Below w.heap.size w W) : RowT W (OwnP P K W) l A := h.own hb.size (Nat.le_refl _) (fun b hx => hb.block b hx.1)
set_option maxRecDepth 100000 in
set_option maxHeartbeats 8000000 in
theorem owndf_any (x : DefnT) (c0 c1 c2 c3 c4 c5 : Value) (w : World) (P : Nat → Prop) (hP : ∀ b, P b → b < w.heap.size) (hz : SlimD x) (hT : TS w P (encDefn x) [c0, c1, c2, c3, c4, c5]) :
    Calls Tryz.prog 85 #[.agg #[c0, c1, c2, c3, c4, c5]] w (OwnDf x P w) := by
  obtain ⟨Af, kf, Ax, kx, Ap, kp, Am, km, e, hn, ⟨l1, h1⟩, ⟨l2, h2⟩, ⟨l3, h3⟩, l4, h4⟩ := defn_cells hT
  simp only [List.cons.injEq, and_true] at e
  obtain ⟨rfl, rfl, rfl, rfl, rfl, rfl⟩ := e
  obtain ⟨kd, n, fs, fl, pt, pm⟩ := x
  have HNL := Lib.hid (And.intro hn (And.intro l1 (And.intro l2 (And.intro l3 l4))))
  have C1 := Lib.hid (fun (wx : World) (hb : Below w.heap.size w wx) => clone_str fs Af kf wx P (fun b h => Nat.lt_of_lt_of_le (hP b h) hb.size) hz.1 (RowT.keep (fun b h => ⟨h, hb.block b (hP b h)⟩) _ _ h1))
  have C2 := Lib.hid (fun (wx : World) (hb : Below w.heap.size w wx) => eachF_any fl Ax kx wx P (fun b h => Nat.lt_of_lt_of_le (hP b h) hb.size) hz.2.1 hz.2.2.2.2 (RowT.keep (fun b h => ⟨h, hb.block b (hP b h)⟩) _ _ h2))
  have C3 := Lib.hid (fun (wx : World) (hb : Below w.heap.size w wx) => clone_str pt Ap kp wx P (fun b h => Nat.lt_of_lt_of_le (hP b h) hb.size) hz.2.2.1 (RowT.keep (fun b h => ⟨h, hb.block b (hP b h)⟩) _ _ h3))
  have C4 := Lib.hid (fun (wx : World) (hb : Below w.heap.size w wx) => clone_par pm Am km wx P (fun b h => Nat.lt_of_lt_of_le (hP b h) hb.size) hz.2.2.2.1 (RowT.keep (fun b h => ⟨h, hb.block b (hP b h)⟩) _ _ h4))
  have X0 := Lib.hid (show BoxD w P ⟨kd, n, fs, fl, pt, pm⟩ _ _ _ _ _ from ⟨two_below w _ _, by rw [two_size]; exact Nat.le_refl _, (Below.heap_alloc (w.alloc (.cells #[.int .i64 kd, .string n, .slice Af fs.length kf, .slice Ax fl.length kx, .slice Ap pt.length kp, .slice Am pm.length km] 65)) (.cells #[.int .i64 0, .string ⟨#[]⟩, .slice none 0 0, .slice none 0 0, .slice none 0 0, .slice none 0 0] 65) w.heap.size (by simp)).trans (heap_alloc_new w (.cells #[.int .i64 kd, .string n, .slice Af fs.length kf, .slice Ax fl.length kx, .slice Ap pt.length kp, .slice Am pm.length km] 65)), heap_two w _ _⟩)
  clear hz hT hn h1 h2 h3 h4 l1 l2 l3 l4
  go_enter Tryz.func85, Tryz.ntmps85
  go_wp2_with fail
  refine (C1.out _ X0.out.low).mono ?_
  rintro e w1 h1
  obtain ⟨A1, k1, rfl, hr1, hb1⟩ := cloned_row h1 (rowOf_len _ _) (fun b h => Nat.lt_of_lt_of_le (hP b h) X0.out.low.size)
  rw [two_size] at hr1
  have X1 := Lib.hid (X0.out.next hb1)
  have R1 := Lib.hid hr1
  obtain ⟨⟨y0, y1, y2, y3, y4, y5⟩, v0, v1, v2, v3, v4, v5⟩ := six_cells X1.out.box
  clear h1 hr1 hb1 X0 C1
  go_upto_region 2 with fail
  clear y0 y1 y2 y3 y4 y5 v0 v1 v2 v3 v4 v5
  have X2 := Lib.hid (X1.out.set2 (.slice A1 fs.length k1))
  have R2 := Lib.hid (R1.out.boxed hP (j := 2) (v := .slice A1 fs.length k1))
  generalize w1.setCell ⟨w.heap.size, 2, none⟩ (.slice A1 fs.length k1) = wa at X2 R2 ⊢
  clear X1 R1
  obtain ⟨⟨y0, y1, y2, y3, y4, y5⟩, v0, v1, v2, v3, v4, v5⟩ := six_cells X2.out.box
  go_wp2_with fail
  refine (C2.out _ X2.out.low).mono ?_
  rintro e w2 ⟨A2, k2, rfl, hr2, hb2⟩
  have X3 := Lib.hid (X2.out.next hb2)
  have R3 := Lib.hid (R2.out.after hb2)
  have Q3 := Lib.hid (hr2.own (w' := w2) (K' := w.heap.size + 2) (Nat.le_refl _) X2.out.size (fun b hb => rfl))
  clear y0 y1 y2 y3 y4 y5 v0 v1 v2 v3 v4 v5 hr2 hb2 X2 R2 C2
  obtain ⟨⟨y0, y1, y2, y3, y4, y5⟩, v0, v1, v2, v3, v4, v5⟩ := six_cells X3.out.box
  go_upto_region 3 with fail
  clear y0 y1 y2 y3 y4 y5 v0 v1 v2 v3 v4 v5
  have X4 := Lib.hid (X3.out.set3 (.slice A2 fl.length k2))
  have R4 := Lib.hid (R3.out.boxed hP (j := 3) (v := .slice A2 fl.length k2))
  have Q4 := Lib.hid (Q3.out.boxed hP (j := 3) (v := .slice A2 fl.length k2))
  generalize w2.setCell ⟨w.heap.size, 3, none⟩ (.slice A2 fl.length k2) = wb at X4 R4 Q4 ⊢
  clear X3 R3 Q3
  obtain ⟨⟨y0, y1, y2, y3, y4, y5⟩, v0, v1, v2, v3, v4, v5⟩ := six_cells X4.out.box
  go_wp2_with fail
  refine (C3.out _ X4.out.low).mono ?_
  rintro e w3 h3
  obtain ⟨A3, k3, rfl, hr3, hb3⟩ := cloned_row h3 (rowOf_len _ _) (fun b h => Nat.lt_of_lt_of_le (hP b h) X4.out.low.size)
  have X5 := Lib.hid (X4.out.next hb3)
  have R5 := Lib.hid (R4.out.after hb3)
  have Q5 := Lib.hid (Q4.out.after hb3)
  have S5 := Lib.hid (hr3.own (w' := w3) (K' := w.heap.size + 2) (Nat.le_refl _) X4.out.size (fun b hb => rfl))
  clear y0 y1 y2 y3 y4 y5 v0 v1 v2 v3 v4 v5 h3 hr3 hb3 X4 R4 Q4 C3
  obtain ⟨⟨y0, y1, y2, y3, y4, y5⟩, v0, v1, v2, v3, v4, v5⟩ := six_cells X5.out.box
  go_upto_region 4 with fail
  clear y0 y1 y2 y3 y4 y5 v0 v1 v2 v3 v4 v5
  have X6 := Lib.hid (X5.out.set4 (.slice A3 pt.length k3))
  have R6 := Lib.hid (R5.out.boxed hP (j := 4) (v := .slice A3 pt.length k3))
  have Q6 := Lib.hid (Q5.out.boxed hP (j := 4) (v := .slice A3 pt.length k3))
  have S6 := Lib.hid (S5.out.boxed hP (j := 4) (v := .slice A3 pt.length k3))
  generalize w3.setCell ⟨w.heap.size, 4, none⟩ (.slice A3 pt.length k3) = wc at X6 R6 Q6 S6 ⊢
  clear X5 R5 Q5 S5
  obtain ⟨⟨y0, y1, y2, y3, y4, y5⟩, v0, v1, v2, v3, v4, v5⟩ := six_cells X6.out.box
  go_wp2_with fail
  refine (C4.out _ X6.out.low).mono ?_
  rintro e w4 h4
  obtain ⟨A4, k4, rfl, hr4, hb4⟩ := cloned_row h4 (rowOf_len _ _) (fun b h => Nat.lt_of_lt_of_le (hP b h) X6.out.low.size)
  have X7 := Lib.hid (X6.out.next hb4)
  have R7 := Lib.hid (R6.out.after hb4)
  have Q7 := Lib.hid (Q6.out.after hb4)
  have S7 := Lib.hid (S6.out.after hb4)
  have U7 := Lib.hid (hr4.own (w' := w4) (K' := w.heap.size + 2) (Nat.le_refl _) X6.out.size (fun b hb => rfl))
  clear y0 y1 y2 y3 y4 y5 v0 v1 v2 v3 v4 v5 h4 hr4 hb4 X6 R6 Q6 S6 C4
  obtain ⟨⟨y0, y1, y2, y3, y4, y5⟩, v0, v1, v2, v3, v4, v5⟩ := six_cells X7.out.box
  go_upto_region 5 with fail
  clear y0 y1 y2 y3 y4 y5 v0 v1 v2 v3 v4 v5
  have X8 := Lib.hid (X7.out.set5 (.slice A4 pm.length k4))
  have R8 := Lib.hid (R7.out.boxed hP (j := 5) (v := .slice A4 pm.length k4))
  have Q8 := Lib.hid (Q7.out.boxed hP (j := 5) (v := .slice A4 pm.length k4))
  have S8 := Lib.hid (S7.out.boxed hP (j := 5) (v := .slice A4 pm.length k4))
  have U8 := Lib.hid (U7.out.boxed hP (j := 5) (v := .slice A4 pm.length k4))
  generalize w4.setCell ⟨w.heap.size, 5, none⟩ (.slice A4 pm.length k4) = wd at X8 R8 Q8 S8 U8 ⊢
  clear X7 R7 Q7 S7 U7
  obtain ⟨⟨y0, y1, y2, y3, y4, y5⟩, _⟩ := six_cells X8.out.box
  obtain ⟨⟨z0, z1, z2, z3, z4, z5⟩, v0, v1, v2, v3, v4, v5⟩ := six_cells X8.out.res
  go_wp2_with fail
  refine ret_dfn rfl rfl rfl (six_set X8.out.res) ?_
  have hne : ∀ b, OwnP P (w.heap.size + 2) wd b → b ≠ w.heap.size + 1 := fun b hb => hb.ne (fun b h => Nat.lt_succ_of_lt (hP b h)) (by omega)
  exact ⟨A1, k1, A2, k2, A3, k3, A4, k4, rfl, defn_ts HNL.out.1 HNL.out.2.1 HNL.out.2.2.1 HNL.out.2.2.2.1 HNL.out.2.2.2.2 (R8.out.own (by simp [World.setCell]) (by omega) (fun b hb => six_heap (hne b hb))) (Q8.out.own (by simp [World.setCell]) (by omega) (fun b hb => six_heap (hne b hb))) (S8.out.own (by simp [World.setCell]) (by omega) (fun b hb => six_heap (hne b hb))) (U8.out.own (by simp [World.setCell]) (by omega) (fun b hb => six_heap (hne b hb))), six_low (b := w.heap.size + 1) X8.out.low (Nat.le_succ _)⟩
end Go.Proofs.YtcfdfgbobnocnaaGreatDoor
namespace Go.Proofs.YtcfdfgbobnocnaaGreatDoor

/-- May it be? -/
def rightT (n : List UInt8) (l m : Int) : Bool := nameB n && (decide (0 ≤ l) && (decide (l ≤ 4) && (decide (0 ≤ m) && decide (m < 2 ^ (l.toNat + 1)))))
/-- The mark behind what stands at place j. -/
def bang (j m : Nat) : List UInt8 := if m.testBit j then [33] else []
/-- What is printed of the places from j on, d lists deep. -/
def prD (n : List UInt8) (m : Nat) : Nat → Nat → List UInt8
  | 0, j => n ++ bang j m
  | d + 1, j => 91 :: (prD n m d (j + 1) ++ 93 :: bang j m)
/-- What stands behind the name. -/
def tailD (m : Nat) : Nat → Nat → List UInt8
  | 0, j => bang j m
  | d + 1, j => tailD m d (j + 1) ++ 93 :: bang j m
def printW (n : List UInt8) (l m : Nat) : List UInt8 := prD n m l 0

theorem prD_eq (n : List UInt8) (m : Nat) : ∀ d j, prD n m d j = List.replicate d 91 ++ (n ++ tailD m d j) := by
  intro d
  induction d with
  | zero => intro j; rfl
  | succ d ih => intro j; simp only [prD, tailD, ih (j + 1), List.replicate_succ]; simp
/-- What the places below k have yet to say, of a lists. -/
def sufD (a m : Nat) : Nat → List UInt8
  | 0 => []
  | k + 1 => (if k < a then [93] else []) ++ (bang k m ++ sufD a m k)
theorem suf_step (a m : Nat) : ∀ k, k ≤ a → tailD m (a - k) k ++ sufD a m k = tailD m a 0 := by
  intro k
  induction k with
  | zero => intro _; simp [sufD]
  | succ k ih =>
    intro h
    rw [← ih (by omega)]
    have e : a - k = (a - (k + 1)) + 1 := by omega
    rw [e, tailD, sufD, if_pos (by omega : k < a)]
    simp
theorem suf_all (a m : Nat) : sufD a m (a + 1) = tailD m a 0 := by
  rw [← suf_step a m a (Nat.le_refl a), sufD, if_neg (Nat.lt_irrefl a), Nat.sub_self]
  rfl
theorem suf_head (a m k : Nat) (h : k ≤ a) : (sufD a m k).head? ≠ some 33 := by
  cases k with
  | zero => simp [sufD]
  | succ k => rw [sufD, if_pos (by omega)]; simp

/-- The document's own reading of what stands behind the name: k places are left. -/
def parB (a : Nat) : Nat → Nat → List UInt8 → Option Nat
  | 0, m, l => if l.isEmpty then some m else none
  | k + 1, m, l =>
    if k < a ∧ l.head? ≠ some 93 then none
    else
      let r := if k < a then l.tail else l
      if r.head? = some 33 then parB a k (m ||| 2 ^ k) r.tail else parB a k m r
theorem bit_or (m k j : Nat) : (m ||| 2 ^ k).testBit j = (m.testBit j || decide (k = j)) := by
  rw [Nat.testBit_or, Nat.testBit_two_pow]
theorem dec_next (k j : Nat) : decide (k ≤ j) = (decide (k + 1 ≤ j) || decide (k = j)) := by
  by_cases h : k = j
  · simp [h]
  · by_cases h1 : k + 1 ≤ j
    · simp [h1, (by omega : k ≤ j)]
    · simp [h, h1]; omega
theorem parB_yes (a m : Nat) : ∀ k m0, k ≤ a + 1 → (∀ j, m0.testBit j = (decide (k ≤ j) && m.testBit j)) → parB a k m0 (sufD a m k) = some m := by
  intro k
  induction k with
  | zero =>
    intro m0 _ h
    have : m0 = m := Nat.eq_of_testBit_eq fun j => by simpa using h j
    simp [parB, sufD, this]
  | succ k ih =>
    intro m0 hk h
    have hs := suf_head a m k (by omega)
    have key : (if (bang k m ++ sufD a m k).head? = some 33 then parB a k (m0 ||| 2 ^ k) (bang k m ++ sufD a m k).tail else parB a k m0 (bang k m ++ sufD a m k)) = some m := by
      by_cases hb : m.testBit k = true
      · rw [bang, if_pos hb]
        refine ih (m0 ||| 2 ^ k) (by omega) (fun j => ?_)
        rw [bit_or, h j, dec_next k j]
        by_cases hj : k = j
        · subst hj; simp [hb]
        · simp [hj]
      · rw [bang, if_neg hb, List.nil_append, if_neg hs]
        refine ih m0 (by omega) (fun j => ?_)
        rw [h j, dec_next k j]
        by_cases hj : k = j
        · subst hj; simp [hb]
        · simp [hj]
    rw [sufD, parB]
    by_cases ha : k < a
    · simp only [ha, if_true, List.cons_append, List.nil_append, List.head?_cons, List.tail_cons, ne_eq, not_true_eq_false, and_false, if_false]
      exact key
    · simp only [ha, if_false, List.nil_append, false_and]
      exact key
theorem cons_of {l : List UInt8} {b : UInt8} (h : l.head? = some b) : l = b :: l.tail := by
  cases l with
  | nil => cases h
  | cons c t => simp at h; subst h; rfl
theorem parB_only (a : Nat) : ∀ k m0 l m, k ≤ a + 1 → (∀ j, j < k → m0.testBit j = false) → parB a k m0 l = some m → l = sufD a m k ∧ ∀ j, k ≤ j → m.testBit j = m0.testBit j := by
  intro k
  induction k with
  | zero =>
    intro m0 l m _ _ h
    rw [parB] at h
    cases l with
    | nil => simp at h; subst h; exact ⟨rfl, fun _ _ => rfl⟩
    | cons b t => simp at h
  | succ k ih =>
    intro m0 l m hk hz h
    have key : ∀ r, (if r.head? = some 33 then parB a k (m0 ||| 2 ^ k) r.tail else parB a k m0 r) = some m → r = bang k m ++ sufD a m k ∧ ∀ j, k + 1 ≤ j → m.testBit j = m0.testBit j := by
      intro r hr
      by_cases hh : r.head? = some 33
      · rw [if_pos hh] at hr
        obtain ⟨h1, h2⟩ := ih _ _ _ (by omega) (fun j hj => by rw [bit_or, hz j (by omega)]; simp; omega) hr
        have hb : m.testBit k = true := by rw [h2 k (Nat.le_refl k), bit_or]; simp
        refine ⟨?_, fun j hj => ?_⟩
        · rw [cons_of hh, h1, bang, if_pos hb]; rfl
        · rw [h2 j (by omega), bit_or, decide_eq_false (by omega : ¬ k = j), Bool.or_false]
      · rw [if_neg hh] at hr
        obtain ⟨h1, h2⟩ := ih _ _ _ (by omega) (fun j hj => hz j (by omega)) hr
        have hb : ¬ m.testBit k = true := by rw [h2 k (Nat.le_refl k), hz k (by omega)]; simp
        refine ⟨?_, fun j hj => h2 j (by omega)⟩
        rw [bang, if_neg hb]; exact h1
    rw [parB] at h
    rw [sufD]
    by_cases ha : k < a
    · by_cases hh : l.head? = some 93
      · simp only [ha, hh, if_true, ne_eq, not_true_eq_false, and_false, if_false] at h
        obtain ⟨e, hj⟩ := key _ h
        refine ⟨?_, hj⟩
        rw [if_pos ha, ← e]; exact cons_of hh
      · simp [ha, hh] at h
    · simp only [ha, if_false, false_and] at h
      obtain ⟨e, hj⟩ := key _ h
      refine ⟨?_, hj⟩
      rw [if_neg ha]; exact e
end Go.Proofs.YtcfdfgbobnocnaaGreatDoor
namespace Go.Proofs.YtcfdfgbobnocnaaGreatDoor

/-- The landed reader: f places at most, from place j on. -/
def rdB : Nat → Nat → Nat → List UInt8 → List UInt8 × Nat × Nat
  | 0, j, m, _ => ([], j, m)
  | f + 1, j, m, s =>
    let b := Lib.trimSuffix s [33]
    let m' := if Lib.hasSuffix s [33] then m ||| 2 ^ j else m
    let c := Lib.trimPrefix b [91]
    if (Lib.hasPrefix b [91] && Lib.hasSuffix c [93]) = true then rdB f (j + 1) m' (Lib.trimSuffix c [93]) else (b, j, m')

theorem suffix_yes (x : List UInt8) (b : UInt8) : Lib.hasSuffix (x ++ [b]) [b] = true := by simp [Lib.hasSuffix]
theorem suffix_is {x : List UInt8} {b : UInt8} (h : Lib.hasSuffix x [b] = true) : x = x.take (x.length - 1) ++ [b] := by
  obtain ⟨t, rfl⟩ : [b] <:+ x := by simpa [Lib.hasSuffix] using h
  simp
theorem suffix_no {x : List UInt8} {b c : UInt8} (h : x.getLast? = some c) (hb : c ≠ b) : Lib.hasSuffix x [b] = false := by
  cases hs : Lib.hasSuffix x [b] with
  | false => rfl
  | true =>
    rw [suffix_is hs, List.getLast?_append] at h
    simp at h
    exact absurd h.symm hb
theorem trims_yes (x : List UInt8) (b : UInt8) : Lib.trimSuffix (x ++ [b]) [b] = x := by
  rw [Lib.trimSuffix, suffix_yes]; simp
theorem trims_no {x : List UInt8} {b : UInt8} (h : Lib.hasSuffix x [b] = false) : Lib.trimSuffix x [b] = x := by
  rw [Lib.trimSuffix, h]; rfl
theorem prefix_yes (x : List UInt8) (b : UInt8) : Lib.hasPrefix (b :: x) [b] = true := by simp [Lib.hasPrefix]
theorem prefix_is {x : List UInt8} {b : UInt8} (h : Lib.hasPrefix x [b] = true) : x = b :: Lib.trimPrefix x [b] := by
  rw [Lib.trimPrefix, if_pos h]
  obtain ⟨t, rfl⟩ : [b] <+: x := by simpa [Lib.hasPrefix] using h
  rfl
theorem trimp_yes (x : List UInt8) (b : UInt8) : Lib.trimPrefix (b :: x) [b] = x := by
  rw [Lib.trimPrefix, prefix_yes]; rfl
theorem prefix_no {x : List UInt8} {b c : UInt8} (h : x.head? = some c) (hb : c ≠ b) : Lib.hasPrefix x [b] = false := by
  cases hs : Lib.hasPrefix x [b] with
  | false => rfl
  | true => rw [prefix_is hs] at h; simp at h; exact absurd h.symm hb

theorem part_neq {b c : UInt8} (h : (letB (b.toNat : Int) || digB (b.toNat : Int)) = true) (hc : letB (c.toNat : Int) = false) (hd : digB (c.toNat : Int) = false) : b ≠ c := by
  rintro rfl
  rw [hc, hd] at h
  cases h
theorem name_last {n : List UInt8} (h : nameB n = true) : ∃ c, n.getLast? = some c ∧ (letB (c.toNat : Int) || digB (c.toNat : Int)) = true := by
  have h2 := tailB_of_nameB h
  cases hl : n.getLast? with
  | none => rw [List.getLast?_eq_none_iff] at hl; rw [hl] at h; cases h
  | some c => exact ⟨c, rfl, (List.all_eq_true.1 h2) c (List.mem_of_getLast? hl)⟩
theorem name_head {n : List UInt8} (h : nameB n = true) : ∃ c, n.head? = some c ∧ (letB (c.toNat : Int) || digB (c.toNat : Int)) = true := by
  have h2 := tailB_of_nameB h
  cases n with
  | nil => cases h
  | cons c t => exact ⟨c, rfl, (List.all_eq_true.1 h2) c (by simp)⟩
/-- What stands at a place ahead of its mark. -/
def coreD (n : List UInt8) (m : Nat) : Nat → Nat → List UInt8
  | 0, _ => n
  | d + 1, j => 91 :: (prD n m d (j + 1) ++ [93])
theorem prD_core (n : List UInt8) (m d j : Nat) : prD n m d j = coreD n m d j ++ bang j m := by
  cases d with
  | zero => rfl
  | succ d => simp [prD, coreD]
theorem core_last {n : List UInt8} (h : nameB n = true) (m d j : Nat) : ∃ c, (coreD n m d j).getLast? = some c ∧ c ≠ 33 := by
  cases d with
  | zero =>
    obtain ⟨c, h1, h2⟩ := name_last h
    exact ⟨c, h1, part_neq h2 (by decide) (by decide)⟩
  | succ d =>
    refine ⟨93, ?_, by decide⟩
    have e : coreD n m (d + 1) j = (91 :: prD n m d (j + 1)) ++ [93] := rfl
    rw [e, List.getLast?_append]
    rfl
theorem bit_set (m j : Nat) : (2 ^ j ||| m).testBit j = true := by rw [Nat.testBit_or, Nat.testBit_two_pow]; simp
theorem mark_step {m m0 j : Nat} (hm : ∀ i, m0.testBit i = (decide (i < j) && m.testBit i)) : ∀ i, (if m.testBit j = true then m0 ||| 2 ^ j else m0).testBit i = (decide (i < j + 1) && m.testBit i) := by
  intro i
  have e : decide (i < j + 1) = (decide (i < j) || decide (j = i)) := by
    by_cases h : j = i
    · simp [h]
    · by_cases h1 : i < j
      · simp [h1, (by omega : i < j + 1)]
      · simp [h, h1]; omega
  by_cases hb : m.testBit j = true
  · rw [if_pos hb, bit_or, hm i, e]
    by_cases hj : j = i
    · subst hj; simp [hb]
    · simp [hj]
  · rw [if_neg hb, hm i, e]
    by_cases hj : j = i
    · subst hj; simp [hb]
    · simp [hj]
theorem rd_yes {n : List UInt8} (hn : nameB n = true) {m : Nat} : ∀ d f j m0, d < f → (∀ i, d + j < i → m.testBit i = false) → (∀ i, m0.testBit i = (decide (i < j) && m.testBit i)) → rdB f j m0 (prD n m d j) = (n, d + j, m) := by
  intro d
  induction d with
  | zero =>
    intro f j m0 hf hz hm
    obtain ⟨f, rfl⟩ : ∃ f', f = f' + 1 := ⟨f - 1, by omega⟩
    have hs := mark_step hm
    obtain ⟨c, hc, hne⟩ := core_last hn m 0 j
    obtain ⟨b, hb1, hb2⟩ := name_head hn
    have hp : Lib.hasPrefix n [91] = false := prefix_no hb1 (part_neq hb2 (by decide) (by decide))
    have he : (if m.testBit j = true then m0 ||| 2 ^ j else m0) = m := Nat.eq_of_testBit_eq fun i => by
      rw [hs i]
      by_cases h : i < j + 1
      · simp [h]
      · rw [hz i (by omega)]; simp
    show rdB (f + 1) j m0 (n ++ bang j m) = _
    unfold bang
    by_cases hb : m.testBit j = true
    · rw [if_pos hb] at he ⊢
      simp only [rdB, trims_yes, suffix_yes, if_true, hp, Bool.false_and, Bool.false_eq_true, if_false, he, Nat.zero_add]
    · rw [if_neg hb] at he ⊢
      have hno := suffix_no hc hne
      simp only [coreD] at hno
      rw [List.append_nil]
      simp only [rdB, trims_no hno, hno, hp, Bool.false_and, Bool.false_eq_true, if_false, he, Nat.zero_add]
  | succ d ih =>
    intro f j m0 hf hz hm
    obtain ⟨f, rfl⟩ : ∃ f', f = f' + 1 := ⟨f - 1, by omega⟩
    have hs := mark_step hm
    obtain ⟨c, hc, hne⟩ := core_last hn m (d + 1) j
    have hi := ih f (j + 1) _ (by omega) (fun i hi => hz i (by omega)) hs
    have e1 : coreD n m (d + 1) j = 91 :: (prD n m d (j + 1) ++ [93]) := rfl
    rw [prD_core]
    unfold bang
    by_cases hb : m.testBit j = true
    · rw [if_pos hb] at hi ⊢
      simp only [rdB, trims_yes, suffix_yes, if_true]
      rw [e1, prefix_yes, trimp_yes, suffix_yes, trims_yes]
      simp only [Bool.and_self, if_true]
      rw [hi, (by omega : d + (j + 1) = d + 1 + j)]
    · rw [if_neg hb] at hi ⊢
      have hno := suffix_no hc hne
      rw [List.append_nil]
      simp only [rdB, trims_no hno, hno, Bool.false_eq_true, if_false]
      rw [e1, prefix_yes, trimp_yes, suffix_yes, trims_yes]
      simp only [Bool.and_self, if_true]
      rw [hi, (by omega : d + (j + 1) = d + 1 + j)]
theorem trim_split (s : List UInt8) (b : UInt8) : s = Lib.trimSuffix s [b] ++ (if Lib.hasSuffix s [b] = true then [b] else []) := by
  cases h : Lib.hasSuffix s [b] with
  | false => rw [trims_no h]; simp
  | true => 
    have := suffix_is h
    rw [if_pos rfl, Lib.trimSuffix, if_pos h]
    simpa using this
theorem rd_only : ∀ f j m0 s n l m, (∀ i, j ≤ i → m0.testBit i = false) → rdB f j m0 s = (n, l, m) → nameB n = true → ∃ d, l = d + j ∧ d < f ∧ s = prD n m d j ∧ (∀ i, i < j → m.testBit i = m0.testBit i) ∧ (∀ i, l < i → m.testBit i = false) := by
  intro f
  induction f with
  | zero => intro j m0 s n l m _ h hn; simp only [rdB, Prod.mk.injEq] at h; obtain ⟨rfl, _⟩ := h; cases hn
  | succ f ih =>
    intro j m0 s n l m hz h hn
    have hsp := trim_split s 33
    simp only [rdB] at h
    generalize Lib.trimSuffix s [33] = b at h hsp
    have hm' : ∀ i, (if Lib.hasSuffix s [33] = true then m0 ||| 2 ^ j else m0).testBit i = (m0.testBit i || (decide (j = i) && Lib.hasSuffix s [33])) := by
      intro i
      cases Lib.hasSuffix s [33] with
      | true => rw [if_pos rfl, bit_or]; simp
      | false => simp
    generalize (if Lib.hasSuffix s [33] = true then m0 ||| 2 ^ j else m0) = m1 at h hm'
    by_cases hc : (Lib.hasPrefix b [91] && Lib.hasSuffix (Lib.trimPrefix b [91]) [93]) = true
    · rw [if_pos hc] at h
      simp only [Bool.and_eq_true] at hc
      obtain ⟨d, hl, hd, he, hlow, hhigh⟩ := ih _ _ _ _ _ _ (fun i hi => by rw [hm' i, hz i (by omega), decide_eq_false (by omega : ¬ j = i)]; rfl) h hn
      refine ⟨d + 1, by omega, by omega, ?_, fun i hi => ?_, hhigh⟩
      · have hb := prefix_is hc.1
        have hc2 := trim_split (Lib.trimPrefix b [91]) 93
        rw [if_pos hc.2] at hc2
        rw [hsp, hb, hc2, he, prD, bang, hlow j (by omega), hm' j, hz j (by omega)]
        cases Lib.hasSuffix s [33] <;> simp
      · rw [hlow i (by omega), hm' i, decide_eq_false (by omega : ¬ j = i)]; simp
    · rw [if_neg hc] at h
      simp only [Prod.mk.injEq] at h
      obtain ⟨rfl, rfl, rfl⟩ := h
      refine ⟨0, by omega, by omega, ?_, fun i hi => ?_, fun i hi => ?_⟩
      · rw [prD, bang, hm' j, hz j (by omega)]
        refine hsp.trans ?_
        cases Lib.hasSuffix s [33] <;> simp
      · rw [hm' i, decide_eq_false (by omega : ¬ j = i)]; simp
      · rw [hm' i, hz i (by omega), decide_eq_false (by omega : ¬ j = i)]; rfl

/-- s is the text of the type that has this name, these lists, these marks. -/
def IsT (s n : List UInt8) (l m : Nat) : Prop := nameB n = true ∧ l ≤ 4 ∧ m < 2 ^ (l + 1) ∧ s = printW n l m
theorem high_zero {l m : Nat} (h : m < 2 ^ (l + 1)) : ∀ i, l < i → m.testBit i = false := fun i hi => Nat.testBit_lt_two_pow (Nat.lt_of_lt_of_le h (Nat.pow_le_pow_right (by omega) (by omega)))
theorem high_lt {l m : Nat} (h : ∀ i, l < i → m.testBit i = false) : m < 2 ^ (l + 1) := Nat.lt_pow_two_of_testBit _ fun i hi => h i (by omega)
theorem wread_back {s n : List UInt8} {l m : Nat} (h : IsT s n l m) : rdB 5 0 0 s = (n, l, m) := by
  obtain ⟨hn, hl, hm, rfl⟩ := h
  exact rd_yes hn l 5 0 0 (by omega) (fun i hi => high_zero hm i (by omega)) (fun i => by simp)
theorem isT_unique {s n n' : List UInt8} {l l' m m' : Nat} (h : IsT s n l m) (h' : IsT s n' l' m') : n = n' ∧ l = l' ∧ m = m' := by
  have := (wread_back h).symm.trans (wread_back h')
  simpa using this
theorem rd_isT {s n : List UInt8} {l m : Nat} (h : rdB 5 0 0 s = (n, l, m)) (hn : nameB n = true) : IsT s n l m := by
  obtain ⟨d, hl, hd, he, _, hz⟩ := rd_only 5 0 0 s n l m (fun i _ => by simp) h hn
  obtain rfl : l = d := by omega
  exact ⟨hn, by omega, high_lt hz, he⟩

def partU (b : UInt8) : Bool := letB (b.toNat : Int) || digB (b.toNat : Int)
/-- How many brackets open, and how long the name behind them is. -/
def opens (s : List UInt8) : Nat := (s.takeWhile fun b => b == 91).length
def nameLen (s : List UInt8) : Nat := (s.takeWhile partU).length
theorem takeWhile_app {p : UInt8 → Bool} : ∀ {x y : List UInt8}, (∀ b ∈ x, p b = true) → (∀ b, y.head? = some b → p b = false) → (x ++ y).takeWhile p = x := by
  intro x
  induction x with
  | nil =>
    intro y _ hy
    cases y with
    | nil => rfl
    | cons b t => simp [hy b rfl]
  | cons b t ih => intro y hx hy; simp [hx b (by simp), ih (fun c hc => hx c (by simp [hc])) hy]
theorem tail_head (m d j : Nat) : ∀ b, (tailD m d j).head? = some b → b = 33 ∨ b = 93 := by
  induction d generalizing j with
  | zero => intro b h; unfold tailD bang at h; split at h <;> simp at h; exact .inl h.symm
  | succ d ih =>
    intro b h
    rw [tailD] at h
    cases ht : tailD m d (j + 1) with
    | nil => rw [ht] at h; simp at h; exact .inr h.symm
    | cons c t => rw [ht] at h; simp at h; subst h; exact ih (j + 1) c (by rw [ht]; rfl)
theorem isT_parts {s n : List UInt8} {l m : Nat} (h : IsT s n l m) : opens s = l ∧ nameLen (s.drop l) = n.length ∧ (s.drop l).take n.length = n ∧ parB l (l + 1) 0 ((s.drop l).drop n.length) = some m := by
  obtain ⟨hn, hl, hm, rfl⟩ := h
  rw [printW, prD_eq]
  have e1 : (List.replicate l (91 : UInt8) ++ (n ++ tailD m l 0)).takeWhile (fun b => b == 91) = List.replicate l 91 := by
    refine takeWhile_app (fun b hb => by rw [List.eq_of_mem_replicate hb]; rfl) (fun b hb => ?_)
    obtain ⟨c, h1, h2⟩ := name_head hn
    have : b = c := by
      cases n with
      | nil => cases h1
      | cons x t => simp at h1 hb; rw [← h1, ← hb]
    subst this
    have := part_neq (c := 91) h2 (by decide) (by decide)
    simpa using this
  have e2 : (List.replicate l (91 : UInt8) ++ (n ++ tailD m l 0)).drop l = n ++ tailD m l 0 := by
    have := List.drop_left (l₁ := List.replicate l (91 : UInt8)) (l₂ := n ++ tailD m l 0)
    rwa [List.length_replicate] at this
  have e3 : (n ++ tailD m l 0).takeWhile partU = n := by
    refine takeWhile_app (fun b hb => (List.all_eq_true.1 (tailB_of_nameB hn)) b hb) (fun b hb => ?_)
    rcases tail_head m l 0 b hb with rfl | rfl <;> decide
  refine ⟨by rw [opens, e1, List.length_replicate], by rw [e2, nameLen, e3], by rw [e2, List.take_left], ?_⟩
  rw [e2, List.drop_left, ← suf_all]
  exact parB_yes l m (l + 1) 0 (Nat.le_refl _) (fun j => by
    by_cases hj : l + 1 ≤ j
    · rw [high_zero hm j (by omega)]; simp
    · simp [hj])
theorem takeWhile_rep (s : List UInt8) : s.takeWhile (fun b => b == 91) = List.replicate (opens s) 91 := by
  refine List.eq_replicate_iff.2 ⟨rfl, fun b hb => ?_⟩
  have := List.all_eq_true.1 (List.all_takeWhile (p := fun b : UInt8 => b == 91) (l := s)) b hb
  simpa using this
theorem parts_isT {s n : List UInt8} {l m k : Nat} (h1 : opens s = l) (h3 : (s.drop l).take k = n) (hl : l ≤ 4) (hn : nameB n = true) (h4 : parB l (l + 1) 0 ((s.drop l).drop k) = some m) : IsT s n l m := by
  obtain ⟨h5, h6⟩ := parB_only l (l + 1) 0 _ m (Nat.le_refl _) (fun j _ => by simp) h4
  refine ⟨hn, hl, high_lt fun i hi => by rw [h6 i (by omega)]; simp, ?_⟩
  rw [printW, prD_eq, ← suf_all, ← h5, ← h3, List.take_append_drop]
  have := List.takeWhile_append_dropWhile (p := fun b : UInt8 => b == 91) (l := s)
  rw [takeWhile_rep, h1] at this
  have hd : s.drop l = s.dropWhile fun b => b == 91 := by
    conv => lhs; rw [← this]
    have := List.drop_left (l₁ := List.replicate l (91 : UInt8)) (l₂ := s.dropWhile fun b => b == 91)
    rwa [List.length_replicate] at this
  rw [hd]
  exact this.symm
end Go.Proofs.YtcfdfgbobnocnaaGreatDoor
