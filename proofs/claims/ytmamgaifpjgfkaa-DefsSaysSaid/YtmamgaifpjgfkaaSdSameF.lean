/- seineref6.SameField over equal trees. (gen_sdsame.py wrote it.) -/
import Derived.Test.YtmamgaifpjgfkaaSdSameP
namespace Go.Proofs.Ytmamgaifpjgfkaa
open Go.RowKit

def BK6 (w : World) (x y : Nat) (c0 c1 c2 c3 c4 c5 d0 d1 d2 d3 d4 d5 : Value) (W : World) : Prop :=
  (W.cell? ⟨x, 0, none⟩ = some c0 ∧ W.cell? ⟨x, 1, none⟩ = some c1 ∧ W.cell? ⟨x, 2, none⟩ = some c2 ∧ W.cell? ⟨x, 3, none⟩ = some c3 ∧ W.cell? ⟨x, 4, none⟩ = some c4 ∧ W.cell? ⟨x, 5, none⟩ = some c5 ∧ W.cell? ⟨y, 0, none⟩ = some d0 ∧ W.cell? ⟨y, 1, none⟩ = some d1 ∧ W.cell? ⟨y, 2, none⟩ = some d2 ∧ W.cell? ⟨y, 3, none⟩ = some d3 ∧ W.cell? ⟨y, 4, none⟩ = some d4 ∧ W.cell? ⟨y, 5, none⟩ = some d5) ∧ x < W.heap.size ∧ y < W.heap.size ∧ Below w.heap.size w W
theorem BK6.cells {w W : World} {x y : Nat} {c0 c1 c2 c3 c4 c5 d0 d1 d2 d3 d4 d5 : Value} (h : BK6 w x y c0 c1 c2 c3 c4 c5 d0 d1 d2 d3 d4 d5 W) : W.cell? ⟨x, 0, none⟩ = some c0 ∧ W.cell? ⟨x, 1, none⟩ = some c1 ∧ W.cell? ⟨x, 2, none⟩ = some c2 ∧ W.cell? ⟨x, 3, none⟩ = some c3 ∧ W.cell? ⟨x, 4, none⟩ = some c4 ∧ W.cell? ⟨x, 5, none⟩ = some c5 ∧ W.cell? ⟨y, 0, none⟩ = some d0 ∧ W.cell? ⟨y, 1, none⟩ = some d1 ∧ W.cell? ⟨y, 2, none⟩ = some d2 ∧ W.cell? ⟨y, 3, none⟩ = some d3 ∧ W.cell? ⟨y, 4, none⟩ = some d4 ∧ W.cell? ⟨y, 5, none⟩ = some d5 := h.1
theorem BK6.below {w W : World} {x y : Nat} {c0 c1 c2 c3 c4 c5 d0 d1 d2 d3 d4 d5 : Value} (h : BK6 w x y c0 c1 c2 c3 c4 c5 d0 d1 d2 d3 d4 d5 W) : Below w.heap.size w W := h.2.2.2
theorem BK6.next {w W W' : World} {x y : Nat} {c0 c1 c2 c3 c4 c5 d0 d1 d2 d3 d4 d5 : Value} (h : BK6 w x y c0 c1 c2 c3 c4 c5 d0 d1 d2 d3 d4 d5 W) (hb : Below W.heap.size W W') : BK6 w x y c0 c1 c2 c3 c4 c5 d0 d1 d2 d3 d4 d5 W' := by
  obtain ⟨⟨g0, g1, g2, g3, g4, g5, f0, f1, f2, f3, f4, f5⟩, hx, hy, hB⟩ := h
  exact ⟨⟨(hb.cell (p := ⟨x, _, none⟩) hx).trans g0, (hb.cell (p := ⟨x, _, none⟩) hx).trans g1, (hb.cell (p := ⟨x, _, none⟩) hx).trans g2, (hb.cell (p := ⟨x, _, none⟩) hx).trans g3, (hb.cell (p := ⟨x, _, none⟩) hx).trans g4, (hb.cell (p := ⟨x, _, none⟩) hx).trans g5, (hb.cell (p := ⟨y, _, none⟩) hy).trans f0, (hb.cell (p := ⟨y, _, none⟩) hy).trans f1, (hb.cell (p := ⟨y, _, none⟩) hy).trans f2, (hb.cell (p := ⟨y, _, none⟩) hy).trans f3, (hb.cell (p := ⟨y, _, none⟩) hy).trans f4, (hb.cell (p := ⟨y, _, none⟩) hy).trans f5⟩, Nat.lt_of_lt_of_le hx hb.size, Nat.lt_of_lt_of_le hy hb.size, hB.trans (hb.mono hB.size)⟩
theorem BK6.start (w : World) (c0 c1 c2 c3 c4 c5 d0 d1 d2 d3 d4 d5 : Value) (t : TypeId) : BK6 w (w.heap.size) (w.heap.size + 1) c0 c1 c2 c3 c4 c5 d0 d1 d2 d3 d4 d5 ((w.alloc (.cells #[c0, c1, c2, c3, c4, c5] t)).alloc (.cells #[d0, d1, d2, d3, d4, d5] t)) := by
  have k0 : ((w.alloc (.cells #[c0, c1, c2, c3, c4, c5] t)).alloc (.cells #[d0, d1, d2, d3, d4, d5] t)).heap[w.heap.size]? = some (.cells #[c0, c1, c2, c3, c4, c5] t) := by
    show ((w.alloc (.cells #[c0, c1, c2, c3, c4, c5] t)).alloc (.cells #[d0, d1, d2, d3, d4, d5] t)).heap[w.heap.size]? = _
    rw [Below.heap_alloc _ _ _ (by simp)]
    show (w.heap.push _)[w.heap.size]? = _; simp
  have k1 : ((w.alloc (.cells #[c0, c1, c2, c3, c4, c5] t)).alloc (.cells #[d0, d1, d2, d3, d4, d5] t)).heap[w.heap.size + 1]? = some (.cells #[d0, d1, d2, d3, d4, d5] t) := by
    show ((w.heap.push _).push _)[w.heap.size + 1]? = _
    rw [Array.getElem?_push, if_pos (by simp)]
  refine ⟨⟨?_, ?_, ?_, ?_, ?_, ?_, ?_, ?_, ?_, ?_, ?_, ?_⟩, ?_, ?_, ((Below.refl _ _).alloc (Nat.le_refl _) _).alloc (by simp) _⟩
  all_goals first | (simp only [World.cell?]; first | (rw [k0]; rfl) | (rw [k1]; rfl)) | (show _ < ((w.heap.push _).push _).size; simp; done) | (show _ < ((w.heap.push _).push _).size; simp; omega)
def FieldAt (w : World) (B : Nat) (ps : List VarT) (d : List DirT) (Ap Ad : Option Addr) : Prop :=
  ps.length ≤ 9223372036854775807 ∧ d.length ≤ 9223372036854775807 ∧ RowT w (fun b => b < B) (rowOf encVar ps) Ap ∧ RowT w (fun b => b < B) (rowOf encD d) Ad
theorem FieldAt.below {w w' : World} {B : Nat} (hb : Below B w w') {ps : List VarT} {d : List DirT} {Ap Ad : Option Addr} (h : FieldAt w B ps d Ap Ad) : FieldAt w' B ps d Ap Ad :=
  ⟨h.1, h.2.1, RowT.below hb h.2.2.1, RowT.below hb h.2.2.2⟩
theorem s_field_at {w : World} {B : Nat} {l : List FieldT} {A : Option Addr} {q : Nat} {nm tn : ByteArray} {tl tm : Int} {ps : List VarT} {ds : List DirT} (h : RowT w (fun b => b < B) (rowOf encField l) A) (hx : l[q]? = some ⟨nm, ps, tn, tl, tm, ds⟩) :
    ∃ b p Ap kp Ad kd, A = some ⟨b, p, none⟩ ∧ b < B ∧ (w.cell? ⟨b, p + q * 6, none⟩ = some (.string nm) ∧ w.cell? ⟨b, p + q * 6 + 1, none⟩ = some (.slice Ap ps.length kp) ∧ w.cell? ⟨b, p + q * 6 + 2, none⟩ = some (.string tn) ∧ w.cell? ⟨b, p + q * 6 + 3, none⟩ = some (.int .i64 (tl : Int)) ∧ w.cell? ⟨b, p + q * 6 + 4, none⟩ = some (.int .i64 (tm : Int)) ∧ w.cell? ⟨b, p + q * 6 + 5, none⟩ = some (.slice Ad ds.length kd)) ∧ FieldAt w B ps ds Ap Ad := by
  obtain ⟨b, p, cs, e, hb, hc, h1⟩ := rowOf_at 6 (fun _ => rfl) h hx
  simp only [encField, TS, TP] at h1
  obtain ⟨c0, _, rfl, ⟨rfl, _⟩, c1, _, rfl, ⟨Ap, kp, rfl, hpl, hP⟩, c2, _, rfl, ⟨rfl, _⟩, c3, _, rfl, ⟨rfl, _⟩, c4, _, rfl, ⟨rfl, _⟩, c5, _, rfl, ⟨Ad, kd, rfl, hdl, hD⟩, rfl⟩ := h1
  rw [rowOf_len] at hpl hdl
  rw [rowOf_len, rowOf_len] at hc
  exact ⟨b, p, Ap, kp, Ad, kd, e, hb, ⟨hc 0 _ rfl, hc 1 _ rfl, hc 2 _ rfl, hc 3 _ rfl, hc 4 _ rfl, hc 5 _ rfl⟩, hpl, hdl, hP, hD⟩

set_option maxRecDepth 100000 in
set_option maxHeartbeats 4000000 in
theorem sfield_yes (nm tn : ByteArray) (tl tm : Int) (ps : List VarT) (ds : List DirT) (Ap Ap' Ad Ad' : Option Addr) (kp kp' kd kd' : Nat) (w : World) (B : Nat) (hB : B ≤ w.heap.size) (h1 : FieldAt w B ps ds Ap Ad) (h2 : FieldAt w B ps ds Ap' Ad') :
    Calls Try.prog 32 #[.agg #[.string nm, .slice Ap ps.length kp, .string tn, .int .i64 (tl : Int), .int .i64 (tm : Int), .slice Ad ds.length kd], .agg #[.string nm, .slice Ap' ps.length kp', .string tn, .int .i64 (tl : Int), .int .i64 (tm : Int), .slice Ad' ds.length kd']] w fun e w' => e = .returned (.bool true) ∧ Below w.heap.size w w' := by
  have S1 := Lib.hid h1
  have S2 := Lib.hid h2
  have HB0 := Lib.hid hB
  clear h1 h2 hB
  have eA : (nm.toList == nm.toList) = true := by simp
  have eN : (tn.toList == tn.toList) = true := by simp
  go_enter Try.func32, Try.ntmps32
  have hW0 := Lib.hid (BK6.start w (.string nm) (.slice Ap ps.length kp) (.string tn) (.int .i64 (tl : Int)) (.int .i64 (tm : Int)) (.slice Ad ds.length kd) (.string nm) (.slice Ap' ps.length kp') (.string tn) (.int .i64 (tl : Int)) (.int .i64 (tm : Int)) (.slice Ad' ds.length kd') 46)
  go_wp2_with fail
  have hB1 := hW0.out.below
  refine (spars_yes ps Ap Ap' kp kp' _ B (Nat.le_trans HB0.out hB1.size) S1.out.1 (FieldAt.below (hB1.mono HB0.out) S1.out).2.2.1 (FieldAt.below (hB1.mono HB0.out) S2.out).2.2.1).mono ?_
  rintro e w3 ⟨rfl, hb3⟩
  have hW3 := Lib.hid (BK6.next hW0.out hb3)
  clear hW0 hB1 hb3
  have hc0 := hW3.out.cells
  obtain ⟨g0, g1, g2, g3, g4, g5, f0, f1, f2, f3, f4, f5⟩ := hc0
  have hB1 := hW3.out.below
  go_wp2_with fail
  refine (dirs_yes ds Ad Ad' kd kd' _ B (Nat.le_trans HB0.out hB1.size) S1.out.2.1 (FieldAt.below (hB1.mono HB0.out) S1.out).2.2.2 (FieldAt.below (hB1.mono HB0.out) S2.out).2.2.2).mono ?_
  rintro e w4 ⟨rfl, hb4⟩
  have hW4 := Lib.hid (BK6.next hW3.out hb4).below
  clear g0 g1 g2 g3 g4 g5 f0 f1 f2 f3 f4 f5 hW3 hB1 hb4
  go_wp2_with fail
  go_ret
  exact ⟨rfl, hW4.out⟩
end Go.Proofs.Ytmamgaifpjgfkaa
