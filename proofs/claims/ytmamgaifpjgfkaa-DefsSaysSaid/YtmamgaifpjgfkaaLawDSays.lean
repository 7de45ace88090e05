/- The walk of the law DefsSays. (gen_says.py wrote it.) -/
import Derived.Test.YtmamgaifpjgfkaaDfKeepS
import Derived.Test.YtmamgaifpjgfkaaDfFld
import Derived.Test.YtmamgaifpjgfkaaDfRef3
import Derived.Test.YtmamgaifpjgfkaaSdSameS
import Derived.Test.YtmamgaifpjgfkaaDfSameT
import Derived.Test.YtmamgaifpjgfkaaDfMeet
import Derived.Test.YtmamgaifpjgfkaaDfLightS
import Derived.Test.YtmamgaifpjgfkaaDfAwake
namespace Go.Proofs.Ytmamgaifpjgfkaa.LDSays
open Go.RowKit

def QC (wz : World) (cs : List (Nat × Nat × Value)) (W : World) : Prop := (∀ p, p ∈ cs → W.cell? ⟨p.1, p.2.1, none⟩ = some p.2.2) ∧ Below wz.heap.size wz W
theorem QC.next {wz W W' : World} {cs : List (Nat × Nat × Value)} (h : QC wz cs W) (hl : ∀ p, p ∈ cs → p.1 < wz.heap.size) (hb : Below W.heap.size W W') : QC wz cs W' :=
  ⟨fun p hp => (hb.cell (p := ⟨p.1, p.2.1, none⟩) (Nat.lt_of_lt_of_le (hl p hp) h.2.size)).trans (h.1 p hp), h.2.trans (hb.mono h.2.size)⟩
theorem q_written {wz W : World} {a1 b1 a2 b2 a3 b3 a4 b4 a5 b5 a6 b6 : Nat} {v1 v2 v3 v4 v5 v6 : Value} (h : QC wz [(a1, b1, v1), (a2, b2, v2), (a3, b3, v3), (a4, b4, v4), (a5, b5, v5), (a6, b6, v6)] W) :
    W.cell? ⟨a1, b1, none⟩ = some v1 ∧ W.cell? ⟨a2, b2, none⟩ = some v2 ∧ W.cell? ⟨a3, b3, none⟩ = some v3 ∧ W.cell? ⟨a4, b4, none⟩ = some v4 ∧ W.cell? ⟨a5, b5, none⟩ = some v5 ∧ W.cell? ⟨a6, b6, none⟩ = some v6 ∧ QC wz [(a1, b1, v1), (a2, b2, v2), (a3, b3, v3), (a4, b4, v4), (a5, b5, v5), (a6, b6, v6)] W :=
  ⟨h.1 (a1, b1, v1) (by simp), h.1 (a2, b2, v2) (by simp), h.1 (a3, b3, v3) (by simp), h.1 (a4, b4, v4) (by simp), h.1 (a5, b5, v5) (by simp), h.1 (a6, b6, v6) (by simp), h⟩
theorem q_held {wz W : World} {cs : List (Nat × Nat × Value)} {p1 p2 p3 p4 p5 p6 : Prop} (h : p1 ∧ p2 ∧ p3 ∧ p4 ∧ p5 ∧ p6 ∧ QC wz cs W) : Below wz.heap.size wz W := h.2.2.2.2.2.2.2
theorem q_last {wz W : World} {cs : List (Nat × Nat × Value)} {p1 p2 p3 p4 p5 p6 : Prop} (h : p1 ∧ p2 ∧ p3 ∧ p4 ∧ p5 ∧ p6 ∧ QC wz cs W) : QC wz cs W := h.2.2.2.2.2.2
theorem block_on {W W' : World} {g : Nat} {o : Obj} (h : W.heap[g]? = some o) (hb : Below W.heap.size W W') : W'.heap[g]? = some o := (hb.block _ (Array.getElem?_eq_some_iff.1 h).1).trans h
theorem ts_on {W W' : World} {s : TrS} {cs : List Value} (h : TS W (fun b => b < W.heap.size) s cs) (hb : Below W.heap.size W W') : TS W' (fun b => b < W'.heap.size) s cs := TS.keep (fun b hx => ⟨Nat.lt_of_lt_of_le hx hb.size, hb.block b hx⟩) _ _ h
theorem strs_on {W W' : World} {A : Option Addr} {n : Nat} {xs : List ByteArray} (h : Blk.StrsAt W W.heap.size A n xs) (hb : Below W.heap.size W W') : Blk.StrsAt W' W'.heap.size A n xs := (h.below hb).more hb.size
theorem dfn_at {W : World} {x : DefnT} {Af Ax Ap Am : Option Addr} {kf kx kp km : Nat} (h : TS W (fun b => b < W.heap.size) (encDefn x) [.int .i64 x.kind, .string x.name, .slice Af x.faces.length kf, .slice Ax x.fields.length kx, .slice Ap x.parts.length kp, .slice Am x.params.length km]) : DefnAt W W.heap.size x.faces x.fields x.parts x.params Af Ax Ap Am := by
  obtain ⟨Af', kf', Ax', kx', Ap', kp', Am', km', e, _, ⟨l1, h1⟩, ⟨l2, h2⟩, ⟨l3, h3⟩, l4, h4⟩ := defn_cells h
  simp only [List.cons.injEq, Value.slice.injEq, and_true, true_and] at e
  obtain ⟨⟨rfl, rfl⟩, ⟨rfl, rfl⟩, ⟨rfl, rfl⟩, rfl, rfl⟩ := e
  exact ⟨⟨l1, l2, l3, l4⟩, h1, h2, h3, h4⟩
theorem sch_row {W : World} {P : Nat → Prop} {S : SchT} {A : Option Addr} {k : Nat} (h : TS W P (encSch S) [.slice A S.defs.length k, .string S.query, .string S.mutation]) : RowT W P (rowOf encDefn S.defs) A := by
  obtain ⟨A', k', e, _, hR⟩ := sch_cells h
  simp only [List.cons.injEq, Value.slice.injEq, and_true, true_and] at e
  obtain ⟨rfl, rfl⟩ := e
  exact hR
theorem strs_len (l : Nat) {W : World} {A : Option Addr} {xs : List ByteArray} (h : Blk.StrsAt W W.heap.size A l xs) : l = xs.length := by rw [← h.1]
set_option maxRecDepth 100000 in
set_option maxHeartbeats 8000000 in
theorem walk (w : World) (S : SchT) (c0 c1 c2 : Value) (hS : TS w (fun b => b < w.heap.size) (encSch S) [c0, c1, c2]) (hz : SlimS S) (hd : ∀ d, d ∈ S.defs → ∀ f, f ∈ d.fields → ∀ x, x ∈ f.dirs → SlimM x.2) (n : ByteArray) (hn : n.size ≤ 140737488355328) :
    Calls Try.prog 3 #[.agg #[c0, c1, c2], .string n] w fun e w' => e = .returned (.bool true) ∧ Below w.heap.size w w' := by
  have L := Lib.hid (fun (wx : World) (h : Below w.heap.size w wx) => light_any S c0 c1 c2 wx w.heap.size h.size (TS.low h hS))
  have HZ := Lib.hid hz
  have HD := Lib.hid hd
  have TSW := Lib.hid hS
  obtain ⟨A, k, e, hlen, _⟩ := sch_cells hS
  injection e with e0 e
  injection e with e1 e
  injection e with e2 e
  subst e0 e1 e2
  have HLN := Lib.hid hlen
  clear e hS hz hd hlen
  have B0 := Lib.hid (dbelow_new w (.cells #[.slice A S.defs.length k, .string S.query, .string S.mutation] 24))
  have X0 := Lib.hid (heap_alloc_new w (.cells #[.slice A S.defs.length k, .string S.query, .string S.mutation] 24))
  go_enter Try.func3, Try.ntmps3
  go_wp2_with fail
  refine (L.out _ B0.out).mono ?_
  rintro e w1 ⟨lt, rfl, hb1⟩
  have B1 := Lib.hid (B0.out.trans (hb1.mono B0.out.size))
  have X1 := Lib.hid (block_on X0.out hb1)
  clear hb1 L X0 B0
  obtain ⟨z0, z1, z2⟩ := three_cells X1.out
  cases lt with
  | false =>
    go_wp2_with fail
    refine (dawake_any w1).mono ?_
    rintro e w2 ⟨rfl, hb2⟩
    have B2 := Lib.hid (B1.out.trans (hb2.mono B1.out.size))
    clear hb2
    go_wp2_with fail
    go_ret
    exact ⟨rfl, B2.out⟩
  | true =>
    by_cases hs : 2000 < n.size
    · have hs1 : decide (2000 < (n.size : Int)) = true := by simp; omega
      have hs2 : (2000 : Int) < (n.size : Int) := by omega
      go_wp2_with fail
      refine (dawake_any w1).mono ?_
      rintro e w2 ⟨rfl, hb2⟩
      have B2 := Lib.hid (B1.out.trans (hb2.mono B1.out.size))
      clear hb2
      go_wp2_with fail
      go_ret
      exact ⟨rfl, B2.out⟩
    · have hs1 : decide (2000 < (n.size : Int)) = false := by simp; omega
      have hs2 : ¬ (2000 : Int) < (n.size : Int) := by omega
      have KP := Lib.hid (kschema_any S _ _ _ w1 HZ.out HD.out (TS.keep (fun b hx => ⟨Nat.lt_of_lt_of_le hx B1.out.size, B1.out.block b hx⟩) _ _ TSW.out))
      have HNN := Lib.hid (show n.size ≤ 9223372036854775807 by omega)
      go_wp2_with fail
      refine KP.out.mono ?_
      rintro e w2 ⟨i0, i1, i2, rfl, hT, hb2⟩
      have TI2 := Lib.hid hT
      obtain ⟨A', k', e, _⟩ := sch_cells hT
      injection e with e0 e
      injection e with e1 e
      injection e with e2 e
      subst e0 e1 e2
      have B2 := Lib.hid (B1.out.trans (hb2.mono B1.out.size))
      have X2 := Lib.hid (block_on X1.out hb2)
      clear e hT hb2 KP X1 B1 z0 z1 z2 hs hs1 hs2 HD
      go_upto_region 4 with fail
      have B3 := Lib.hid (B2.out.trans ((dbelow_new w2 (.cells #[.slice A' S.defs.length k', .string S.query, .string S.mutation] 24)).mono B2.out.size))
      have X3 := Lib.hid (block_on X2.out (dbelow_new w2 (.cells #[.slice A' S.defs.length k', .string S.query, .string S.mutation] 24)))
      have I3 := Lib.hid (heap_alloc_new w2 (.cells #[.slice A' S.defs.length k', .string S.query, .string S.mutation] 24))
      have TI3 := Lib.hid (ts_on TI2.out (dbelow_new w2 (.cells #[.slice A' S.defs.length k', .string S.query, .string S.mutation] 24)))
      have TS3 := Lib.hid (TS.keep (P' := fun b => b < (w2.alloc (.cells #[.slice A' S.defs.length k', .string S.query, .string S.mutation] 24)).heap.size) (fun b hx => ⟨Nat.lt_of_lt_of_le hx B3.out.size, B3.out.block b hx⟩) _ _ TSW.out)
      generalize w2.alloc (.cells #[.slice A' S.defs.length k', .string S.query, .string S.mutation] 24) = w3 at B3 X3 I3 TI3 TS3 ⊢
      generalize w2.heap.size = gi at I3 ⊢
      clear B2 X2 TI2 TSW
      have F1 := Lib.hid (Find_any S n _ _ _ w3 w3.heap.size (Nat.le_refl _) HNN.out HZ.out TI3.out)
      have F2 := Lib.hid (fun (wx : World) (h : Below w3.heap.size w3 wx) => rfind_any S n _ _ _ wx w3.heap.size h.size HNN.out (TS.low h TS3.out))
      obtain ⟨x, hx⟩ : ∃ x, findD S.defs n = x := ⟨_, rfl⟩
      rw [hx] at F1 F2
      clear hx
      obtain ⟨y0, y1, y2⟩ := three_cells I3.out
      obtain ⟨z0, z1, z2⟩ := three_cells X3.out
      go_wp2_with fail
      refine F1.out.mono ?_
      rintro e w4 ⟨d0, d1, d2, d3, d4, d5, rfl, hT, hb4⟩
      have B4 := Lib.hid hb4
      have T4 := Lib.hid hT
      obtain ⟨Df, d0, Dx, d1, Dp, d2, Dm, d3, e, _⟩ := defn_cells hT
      simp only [List.cons.injEq, and_true] at e
      obtain ⟨rfl, rfl, rfl, rfl, rfl, rfl⟩ := e
      clear hT hb4 F1 y0 y1 y2 z0 z1 z2
      go_upto_region 5 with fail
      have B5 := Lib.hid (B4.out.trans ((dbelow_new w4 (.cells #[.int .i64 x.1.kind, .string x.1.name, .slice Df x.1.faces.length d0, .slice Dx x.1.fields.length d1, .slice Dp x.1.parts.length d2, .slice Dm x.1.params.length d3] 32)).mono B4.out.size))
      have G5 := Lib.hid (heap_alloc_new w4 (.cells #[.int .i64 x.1.kind, .string x.1.name, .slice Df x.1.faces.length d0, .slice Dx x.1.fields.length d1, .slice Dp x.1.parts.length d2, .slice Dm x.1.params.length d3] 32))
      have T5 := Lib.hid (ts_on T4.out (dbelow_new w4 (.cells #[.int .i64 x.1.kind, .string x.1.name, .slice Df x.1.faces.length d0, .slice Dx x.1.fields.length d1, .slice Dp x.1.parts.length d2, .slice Dm x.1.params.length d3] 32)))
      generalize w4.alloc (.cells #[.int .i64 x.1.kind, .string x.1.name, .slice Df x.1.faces.length d0, .slice Dx x.1.fields.length d1, .slice Dp x.1.parts.length d2, .slice Dm x.1.params.length d3] 32) = w5 at B5 G5 T5 ⊢
      generalize w4.heap.size = g5 at G5 ⊢
      clear B4 T4
      have X5 := Lib.hid (block_on X3.out B5.out)
      obtain ⟨z0, z1, z2⟩ := three_cells X5.out
      go_wp2_with fail
      refine (F2.out _ B5.out).mono ?_
      rintro e w6 ⟨d0, d1, d2, d3, d4, d5, rfl, hT, hb6⟩
      have B6 := Lib.hid (B5.out.trans (hb6.mono B5.out.size))
      have G6 := Lib.hid (block_on G5.out hb6)
      have T6 := Lib.hid (ts_on T5.out hb6)
      have U6 := Lib.hid (TS.keep (P' := fun b => b < w6.heap.size) (fun b hx => ⟨Nat.lt_of_lt_of_le hx B6.out.size, rfl⟩) _ _ hT)
      obtain ⟨Ef, e0, Ex, e1, Ep, e2, Em, e3, e, _⟩ := defn_cells hT
      simp only [List.cons.injEq, and_true] at e
      obtain ⟨rfl, rfl, rfl, rfl, rfl, rfl⟩ := e
      clear hT hb6 F2 z0 z1 z2 B5 G5 T5 X5
      go_upto_region 6 with fail
      have B7 := Lib.hid (B6.out.trans ((dbelow_new w6 (.cells #[.int .i64 x.1.kind, .string x.1.name, .slice Ef x.1.faces.length e0, .slice Ex x.1.fields.length e1, .slice Ep x.1.parts.length e2, .slice Em x.1.params.length e3] 32)).mono B6.out.size))
      have G7 := Lib.hid (block_on G6.out (dbelow_new w6 (.cells #[.int .i64 x.1.kind, .string x.1.name, .slice Ef x.1.faces.length e0, .slice Ex x.1.fields.length e1, .slice Ep x.1.parts.length e2, .slice Em x.1.params.length e3] 32)))
      have H7 := Lib.hid (heap_alloc_new w6 (.cells #[.int .i64 x.1.kind, .string x.1.name, .slice Ef x.1.faces.length e0, .slice Ex x.1.fields.length e1, .slice Ep x.1.parts.length e2, .slice Em x.1.params.length e3] 32))
      have T7 := Lib.hid (ts_on T6.out (dbelow_new w6 (.cells #[.int .i64 x.1.kind, .string x.1.name, .slice Ef x.1.faces.length e0, .slice Ex x.1.fields.length e1, .slice Ep x.1.parts.length e2, .slice Em x.1.params.length e3] 32)))
      have U7 := Lib.hid (ts_on U6.out (dbelow_new w6 (.cells #[.int .i64 x.1.kind, .string x.1.name, .slice Ef x.1.faces.length e0, .slice Ex x.1.fields.length e1, .slice Ep x.1.parts.length e2, .slice Em x.1.params.length e3] 32)))
      generalize w6.alloc (.cells #[.int .i64 x.1.kind, .string x.1.name, .slice Ef x.1.faces.length e0, .slice Ex x.1.fields.length e1, .slice Ep x.1.parts.length e2, .slice Em x.1.params.length e3] 32) = w7 at B7 G7 H7 T7 U7 ⊢
      generalize w6.heap.size = g7 at H7 ⊢
      clear B6 G6 T6 U6
      have SD := Lib.hid (sdef_yes x.1.kind x.1.name x.1.faces x.1.fields x.1.parts x.1.params Df Ef Dx Ex Dp Ep Dm Em d0 e0 d1 e1 d2 e2 d3 e3 w7 w7.heap.size (Nat.le_refl _) (dfn_at T7.out) (dfn_at U7.out))
      obtain ⟨⟨m0, m1, m2, m3, m4, m5⟩, _⟩ := six_cells G7.out
      obtain ⟨⟨n0, n1, n2, n3, n4, n5⟩, _⟩ := six_cells H7.out
      have ebx : (x.2 != x.2) = false := by simp
      go_wp2_with fail
      refine SD.out.mono ?_
      rintro e w8 ⟨rfl, hb8⟩
      have B8 := Lib.hid (B7.out.trans (hb8.mono B7.out.size))
      clear hb8 SD m0 m1 m2 m3 m4 m5 n0 n1 n2 n3 n4 n5 T7 U7 G7 H7 B7 ebx
      have X7 := Lib.hid (block_on X3.out B8.out)
      have I7 := Lib.hid (block_on I3.out B8.out)
      have TI7 := Lib.hid (ts_on TI3.out B8.out)
      have TS7 := Lib.hid (ts_on TS3.out B8.out)
      have B7 := Lib.hid (B3.out.trans (B8.out.mono B3.out.size))
      clear X3 I3 TI3 TS3 B3 B8
      rename World => w7
      have LF := Lib.hid (fun (wx : World) (h : Below w7.heap.size w7 wx) => leaf_any S n (.slice A' S.defs.length k') (.string S.query) (.string S.mutation) wx w7.heap.size h.size HNN.out (TS.low h TI7.out))
      have LR := Lib.hid (fun (wx : World) (h : Below w7.heap.size w7 wx) => rleaf_any S n (.slice A S.defs.length k) (.string S.query) (.string S.mutation) wx w7.heap.size h.size HNN.out (TS.low h TS7.out))
      have CF := Lib.hid (fun (wx : World) (h : Below w7.heap.size w7 wx) => composite_any S n (.slice A' S.defs.length k') (.string S.query) (.string S.mutation) wx w7.heap.size h.size HNN.out (TS.low h TI7.out))
      have CR := Lib.hid (fun (wx : World) (h : Below w7.heap.size w7 wx) => rcomposite_any S n (.slice A S.defs.length k) (.string S.query) (.string S.mutation) wx w7.heap.size h.size HNN.out (TS.low h TS7.out))
      have EF := Lib.hid (fun (wx : World) (h : Below w7.heap.size w7 wx) => entry_any S n (.slice A' S.defs.length k') (.string S.query) (.string S.mutation) wx w7.heap.size h.size HNN.out (TS.low h TI7.out))
      have ER := Lib.hid (fun (wx : World) (h : Below w7.heap.size w7 wx) => rentry_any S n (.slice A S.defs.length k) (.string S.query) (.string S.mutation) wx w7.heap.size h.size HNN.out (TS.low h TS7.out))
      have PF := Lib.hid (fun (wx : World) (h : Below w7.heap.size w7 wx) => poss_any S n (.slice A' S.defs.length k') (.string S.query) (.string S.mutation) wx w7.heap.size h.size HNN.out HZ.out (TS.low h TI7.out))
      have PR := Lib.hid (fun (wx : World) (h : Below w7.heap.size w7 wx) => rposs_any S n (.slice A S.defs.length k) (.string S.query) (.string S.mutation) wx w7.heap.size h.size HNN.out HZ.out (TS.low h TS7.out))
      have SS := Lib.hid (fun (wx : World) (h : Below w7.heap.size w7 wx) => ssch_yes S.defs S.query S.mutation A' A k' k wx w7.heap.size h.size HLN.out (sch_row (TS.low h TI7.out)) (sch_row (TS.low h TS7.out)))
      have HPL := Lib.hid (Go.Proofs.Ytmamgaifpjgfkaa.poss_len S n HZ.out)
      generalize leafD S.defs n = lf at LF LR
      generalize compD S.defs n = cp at CF CR
      generalize entryD S.defs n = en at EF ER
      generalize possL S n = possl at PF PR HPL
      obtain ⟨y0, y1, y2⟩ := three_cells I7.out
      obtain ⟨z0, z1, z2⟩ := three_cells X7.out
      go_wp2_with fail
      have eb : (lf == lf) = true := by simp
      have ex : (cp == cp) = true := by simp
      have ey : (en == en) = true := by simp
      have hE : QC w7 [(w.heap.size, 0, (Value.slice A S.defs.length k)), (w.heap.size, 1, (Value.string S.query)), (w.heap.size, 2, (Value.string S.mutation)), (gi, 0, (Value.slice A' S.defs.length k')), (gi, 1, (Value.string S.query)), (gi, 2, (Value.string S.mutation))] w7 := ⟨fun p hp => by
        simp only [List.mem_cons, List.not_mem_nil, or_false] at hp
        rcases hp with rfl | rfl | rfl | rfl | rfl | rfl <;> assumption, Below.refl _ _⟩
      have HL : Hid (∀ p, p ∈ [(w.heap.size, 0, (Value.slice A S.defs.length k)), (w.heap.size, 1, (Value.string S.query)), (w.heap.size, 2, (Value.string S.mutation)), (gi, 0, (Value.slice A' S.defs.length k')), (gi, 1, (Value.string S.query)), (gi, 2, (Value.string S.mutation))] → p.1 < w7.heap.size) := Lib.hid (fun p hp => by
        have l0 := (Array.getElem?_eq_some_iff.1 X7.out).1
        have l1 := (Array.getElem?_eq_some_iff.1 I7.out).1
        simp only [List.mem_cons, List.not_mem_nil, or_false] at hp
        rcases hp with rfl | rfl | rfl | rfl | rfl | rfl <;> assumption)
      refine wp_region_held_drew (S := (fun w' => w'.cell? ⟨w.heap.size, 0, none⟩ = some (Value.slice A S.defs.length k) ∧ w'.cell? ⟨w.heap.size, 1, none⟩ = some (Value.string S.query) ∧ w'.cell? ⟨w.heap.size, 2, none⟩ = some (Value.string S.mutation) ∧ w'.cell? ⟨gi, 0, none⟩ = some (Value.slice A' S.defs.length k') ∧ w'.cell? ⟨gi, 1, none⟩ = some (Value.string S.query) ∧ w'.cell? ⟨gi, 2, none⟩ = some (Value.string S.mutation) ∧ QC w7 [(w.heap.size, 0, (Value.slice A S.defs.length k)), (w.heap.size, 1, (Value.string S.query)), (w.heap.size, 2, (Value.string S.mutation)), (gi, 0, (Value.slice A' S.defs.length k')), (gi, 1, (Value.string S.query)), (gi, 2, (Value.string S.mutation))] w')) (by kernel_rfl) (q_written (hE.next HL.out (Below.drew (Below.refl _ _)))) (fun hHeld => ?_)
      refine wpAnyH_take (i := 0) (oi := _) (v := ?_) rfl (by kernel_rfl) (by kernel_rfl) (by kernel_rfl) (fun _ _ _ h => h) (Or.inl ⟨by rfl, ?_⟩) (by assumption) ?_
      rotate_left
      · (intro w hSw; (try dsimp only at hSw); go_simp; try with_reducible rfl)
      try simp only [Act.put, List.getElem_toArray, List.getElem_cons_zero, List.setIfInBounds_toArray, List.set_cons_zero, List.set_cons_succ]
      refine wpAnyH_take (i := 1) (oi := _) (v := ?_) rfl (by kernel_rfl) (by kernel_rfl) (by kernel_rfl) (fun _ _ _ h => h) (Or.inl ⟨by rfl, ?_⟩) (by assumption) ?_
      rotate_left
      · (intro w hSw; (try dsimp only at hSw); go_simp; try with_reducible rfl)
      try simp only [Act.put, List.getElem_toArray, List.getElem_cons_zero, List.getElem_cons_succ, List.setIfInBounds_toArray, List.set_cons_zero, List.set_cons_succ]
      refine wpAnyH_take (i := 3) (oi := _) (v := ?_) rfl (by kernel_rfl) (by kernel_rfl) (by kernel_rfl) (fun _ _ _ h => h) (Or.inl ⟨by rfl, ?_⟩) (by assumption) ?_
      rotate_left
      · (intro w hSw; (try dsimp only at hSw); go_simp; try with_reducible rfl)
      try simp only [Act.put, List.getElem_toArray, List.getElem_cons_zero, List.getElem_cons_succ, List.setIfInBounds_toArray, List.set_cons_zero, List.set_cons_succ]
      refine wpAnyH_take (i := 4) (oi := _) (v := ?_) rfl (by kernel_rfl) (by kernel_rfl) (by kernel_rfl) (fun _ _ _ h => h) (Or.inl ⟨by rfl, ?_⟩) (by assumption) ?_
      rotate_left
      · (intro w hSw; (try dsimp only at hSw); go_simp; try with_reducible rfl)
      try simp only [Act.put, List.getElem_toArray, List.getElem_cons_zero, List.getElem_cons_succ, List.setIfInBounds_toArray, List.set_cons_zero, List.set_cons_succ]
      refine wpAnyH_ready (rs := [2]) (by kernel_rfl) (by simp) ?_
      refine AllReadyH.cons (o := _) rfl (fun K hK => ?_) AllReadyH.nil
      go_simp
      refine (LF.out _ (by first | exact Below.drew (Below.refl _ _) | exact q_held (by assumption))).mono ?_
      rintro e w' ⟨rfl, hb⟩
      have HBN := Lib.hid hb
      go_wp2_with fail
      refine hK.out _ _ (q_written (QC.next (q_last (by assumption)) HL.out HBN.out)) (fun hHeld => ?_)
      clear hK K hb
      try simp only [Act.put, List.getElem_toArray, List.getElem_cons_zero, List.getElem_cons_succ, List.setIfInBounds_toArray, List.set_cons_zero, List.set_cons_succ]
      refine wpAnyH_ready (rs := [5]) (by kernel_rfl) (by simp) ?_
      refine AllReadyH.cons (o := _) rfl (fun K hK => ?_) AllReadyH.nil
      go_simp
      refine (LR.out _ (by first | exact Below.drew (Below.refl _ _) | exact q_held (by assumption))).mono ?_
      rintro e w' ⟨rfl, hb⟩
      have HBN := Lib.hid hb
      go_wp2_with fail
      refine hK.out _ _ (q_written (QC.next (q_last (by assumption)) HL.out HBN.out)) (fun hHeld => ?_)
      clear hK K hb
      try simp only [Act.put, List.getElem_toArray, List.getElem_cons_zero, List.getElem_cons_succ, List.setIfInBounds_toArray, List.set_cons_zero, List.set_cons_succ]
      refine wpAnyH_take (i := 6) (oi := _) (v := ?_) rfl (by kernel_rfl) (by kernel_rfl) (by kernel_rfl) (fun _ _ _ h => h) (Or.inl ⟨by rfl, ?_⟩) (by assumption) ?_
      rotate_left
      · (intro w hSw; (try dsimp only at hSw); go_simp; try with_reducible rfl)
      try simp only [Act.put, List.getElem_toArray, List.getElem_cons_zero, List.getElem_cons_succ, List.setIfInBounds_toArray, List.set_cons_zero, List.set_cons_succ]
      refine wpAnyH_take (i := 7) (oi := _) (v := ?_) rfl (by kernel_rfl) (by kernel_rfl) (by kernel_rfl) (fun _ _ _ h => h) (Or.inl ⟨by rfl, ?_⟩) (by assumption) ?_
      rotate_left
      · (intro w hSw; (try dsimp only at hSw); go_simp; try with_reducible rfl)
      try simp only [Act.put, List.getElem_toArray, List.getElem_cons_zero, List.getElem_cons_succ, List.setIfInBounds_toArray, List.set_cons_zero, List.set_cons_succ]
      refine wpAnyH_take (i := 8) (oi := _) (v := ?_) rfl (by kernel_rfl) (by kernel_rfl) (by kernel_rfl) (fun _ _ _ h => h) (Or.inl ⟨by rfl, ?_⟩) (by assumption) ?_
      rotate_left
      · (intro w hSw; (try dsimp only at hSw); go_simp; try with_reducible rfl)
      try simp only [Act.put, List.getElem_toArray, List.getElem_cons_zero, List.getElem_cons_succ, List.setIfInBounds_toArray, List.set_cons_zero, List.set_cons_succ]
      refine wpAnyH_take (i := 9) (oi := _) (v := ?_) rfl (by kernel_rfl) (by kernel_rfl) (by kernel_rfl) (fun _ _ _ h => h) (Or.inl ⟨by rfl, ?_⟩) (by assumption) ?_
      rotate_left
      · (intro w hSw; (try dsimp only at hSw); go_simp; try with_reducible rfl)
      try simp only [Act.put, List.getElem_toArray, List.getElem_cons_zero, List.getElem_cons_succ, List.setIfInBounds_toArray, List.set_cons_zero, List.set_cons_succ]
      refine wpAnyH_take (i := 11) (oi := _) (v := ?_) rfl (by kernel_rfl) (by kernel_rfl) (by kernel_rfl) (fun _ _ _ h => h) (Or.inl ⟨by rfl, ?_⟩) (by assumption) ?_
      rotate_left
      · (intro w hSw; (try dsimp only at hSw); go_simp; try with_reducible rfl)
      try simp only [Act.put, List.getElem_toArray, List.getElem_cons_zero, List.getElem_cons_succ, List.setIfInBounds_toArray, List.set_cons_zero, List.set_cons_succ]
      refine wpAnyH_take (i := 12) (oi := _) (v := ?_) rfl (by kernel_rfl) (by kernel_rfl) (by kernel_rfl) (fun _ _ _ h => h) (Or.inl ⟨by rfl, ?_⟩) (by assumption) ?_
      rotate_left
      · (intro w hSw; (try dsimp only at hSw); go_simp; try with_reducible rfl)
      try simp only [Act.put, List.getElem_toArray, List.getElem_cons_zero, List.getElem_cons_succ, List.setIfInBounds_toArray, List.set_cons_zero, List.set_cons_succ]
      refine wpAnyH_ready (rs := [10]) (by kernel_rfl) (by simp) ?_
      refine AllReadyH.cons (o := _) rfl (fun K hK => ?_) AllReadyH.nil
      go_simp
      refine (CF.out _ (by first | exact Below.drew (Below.refl _ _) | exact q_held (by assumption))).mono ?_
      rintro e w' ⟨rfl, hb⟩
      have HBN := Lib.hid hb
      go_wp2_with fail
      refine hK.out _ _ (q_written (QC.next (q_last (by assumption)) HL.out HBN.out)) (fun hHeld => ?_)
      clear hK K hb
      try simp only [Act.put, List.getElem_toArray, List.getElem_cons_zero, List.getElem_cons_succ, List.setIfInBounds_toArray, List.set_cons_zero, List.set_cons_succ]
      refine wpAnyH_ready (rs := [13]) (by kernel_rfl) (by simp) ?_
      refine AllReadyH.cons (o := _) rfl (fun K hK => ?_) AllReadyH.nil
      go_simp
      refine (CR.out _ (by first | exact Below.drew (Below.refl _ _) | exact q_held (by assumption))).mono ?_
      rintro e w' ⟨rfl, hb⟩
      have HBN := Lib.hid hb
      go_wp2_with fail
      refine hK.out _ _ (q_written (QC.next (q_last (by assumption)) HL.out HBN.out)) (fun hHeld => ?_)
      clear hK K hb
      try simp only [Act.put, List.getElem_toArray, List.getElem_cons_zero, List.getElem_cons_succ, List.setIfInBounds_toArray, List.set_cons_zero, List.set_cons_succ]
      refine wpAnyH_take (i := 14) (oi := _) (v := ?_) rfl (by kernel_rfl) (by kernel_rfl) (by kernel_rfl) (fun _ _ _ h => h) (Or.inl ⟨by rfl, ?_⟩) (by assumption) ?_
      rotate_left
      · (intro w hSw; (try dsimp only at hSw); go_simp; try with_reducible rfl)
      try simp only [Act.put, List.getElem_toArray, List.getElem_cons_zero, List.getElem_cons_succ, List.setIfInBounds_toArray, List.set_cons_zero, List.set_cons_succ]
      refine wpAnyH_take (i := 15) (oi := _) (v := ?_) rfl (by kernel_rfl) (by kernel_rfl) (by kernel_rfl) (fun _ _ _ h => h) (Or.inl ⟨by rfl, ?_⟩) (by assumption) ?_
      rotate_left
      · (intro w hSw; (try dsimp only at hSw); go_simp; try with_reducible rfl)
      try simp only [Act.put, List.getElem_toArray, List.getElem_cons_zero, List.getElem_cons_succ, List.setIfInBounds_toArray, List.set_cons_zero, List.set_cons_succ]
      refine wpAnyH_take (i := 16) (oi := _) (v := ?_) rfl (by kernel_rfl) (by kernel_rfl) (by kernel_rfl) (fun _ _ _ h => h) (Or.inl ⟨by rfl, ?_⟩) (by assumption) ?_
      rotate_left
      · (intro w hSw; (try dsimp only at hSw); go_simp; try with_reducible rfl)
      try simp only [Act.put, List.getElem_toArray, List.getElem_cons_zero, List.getElem_cons_succ, List.setIfInBounds_toArray, List.set_cons_zero, List.set_cons_succ]
      refine wpAnyH_take (i := 17) (oi := _) (v := ?_) rfl (by kernel_rfl) (by kernel_rfl) (by kernel_rfl) (fun _ _ _ h => h) (Or.inl ⟨by rfl, ?_⟩) (by assumption) ?_
      rotate_left
      · (intro w hSw; (try dsimp only at hSw); go_simp; try with_reducible rfl)
      try simp only [Act.put, List.getElem_toArray, List.getElem_cons_zero, List.getElem_cons_succ, List.setIfInBounds_toArray, List.set_cons_zero, List.set_cons_succ]
      refine wpAnyH_take (i := 18) (oi := _) (v := ?_) rfl (by kernel_rfl) (by kernel_rfl) (by kernel_rfl) (fun _ _ _ h => h) (Or.inl ⟨by rfl, ?_⟩) (by assumption) ?_
      rotate_left
      · (intro w hSw; (try dsimp only at hSw); go_simp; try with_reducible rfl)
      try simp only [Act.put, List.getElem_toArray, List.getElem_cons_zero, List.getElem_cons_succ, List.setIfInBounds_toArray, List.set_cons_zero, List.set_cons_succ]
      refine wpAnyH_take (i := 20) (oi := _) (v := ?_) rfl (by kernel_rfl) (by kernel_rfl) (by kernel_rfl) (fun _ _ _ h => h) (Or.inl ⟨by rfl, ?_⟩) (by assumption) ?_
      rotate_left
      · (intro w hSw; (try dsimp only at hSw); go_simp; try with_reducible rfl)
      try simp only [Act.put, List.getElem_toArray, List.getElem_cons_zero, List.getElem_cons_succ, List.setIfInBounds_toArray, List.set_cons_zero, List.set_cons_succ]
      refine wpAnyH_take (i := 21) (oi := _) (v := ?_) rfl (by kernel_rfl) (by kernel_rfl) (by kernel_rfl) (fun _ _ _ h => h) (Or.inl ⟨by rfl, ?_⟩) (by assumption) ?_
      rotate_left
      · (intro w hSw; (try dsimp only at hSw); go_simp; try with_reducible rfl)
      try simp only [Act.put, List.getElem_toArray, List.getElem_cons_zero, List.getElem_cons_succ, List.setIfInBounds_toArray, List.set_cons_zero, List.set_cons_succ]
      refine wpAnyH_ready (rs := [19]) (by kernel_rfl) (by simp) ?_
      refine AllReadyH.cons (o := _) rfl (fun K hK => ?_) AllReadyH.nil
      go_simp
      refine (EF.out _ (by first | exact Below.drew (Below.refl _ _) | exact q_held (by assumption))).mono ?_
      rintro e w' ⟨rfl, hb⟩
      have HBN := Lib.hid hb
      go_wp2_with fail
      refine hK.out _ _ (q_written (QC.next (q_last (by assumption)) HL.out HBN.out)) (fun hHeld => ?_)
      clear hK K hb
      try simp only [Act.put, List.getElem_toArray, List.getElem_cons_zero, List.getElem_cons_succ, List.setIfInBounds_toArray, List.set_cons_zero, List.set_cons_succ]
      refine wpAnyH_ready (rs := [22]) (by kernel_rfl) (by simp) ?_
      refine AllReadyH.cons (o := _) rfl (fun K hK => ?_) AllReadyH.nil
      go_simp
      refine (ER.out _ (by first | exact Below.drew (Below.refl _ _) | exact q_held (by assumption))).mono ?_
      rintro e w' ⟨rfl, hb⟩
      have HBN := Lib.hid hb
      go_wp2_with fail
      refine hK.out _ _ (q_written (QC.next (q_last (by assumption)) HL.out HBN.out)) (fun hHeld => ?_)
      clear hK K hb
      try simp only [Act.put, List.getElem_toArray, List.getElem_cons_zero, List.getElem_cons_succ, List.setIfInBounds_toArray, List.set_cons_zero, List.set_cons_succ]
      refine wpAnyH_take (i := 23) (oi := _) (v := ?_) rfl (by kernel_rfl) (by kernel_rfl) (by kernel_rfl) (fun _ _ _ h => h) (Or.inl ⟨by rfl, ?_⟩) (by assumption) ?_
      rotate_left
      · (intro w hSw; (try dsimp only at hSw); go_simp; try with_reducible rfl)
      try simp only [Act.put, List.getElem_toArray, List.getElem_cons_zero, List.getElem_cons_succ, List.setIfInBounds_toArray, List.set_cons_zero, List.set_cons_succ]
      refine wpAnyH_take (i := 24) (oi := _) (v := ?_) rfl (by kernel_rfl) (by kernel_rfl) (by kernel_rfl) (fun _ _ _ h => h) (Or.inl ⟨by rfl, ?_⟩) (by assumption) ?_
      rotate_left
      · (intro w hSw; (try dsimp only at hSw); go_simp; try with_reducible rfl)
      try simp only [Act.put, List.getElem_toArray, List.getElem_cons_zero, List.getElem_cons_succ, List.setIfInBounds_toArray, List.set_cons_zero, List.set_cons_succ]
      refine wpAnyH_take (i := 25) (oi := _) (v := ?_) rfl (by kernel_rfl) (by kernel_rfl) (by kernel_rfl) (fun _ _ _ h => h) (Or.inl ⟨by rfl, ?_⟩) (by assumption) ?_
      rotate_left
      · (intro w hSw; (try dsimp only at hSw); go_simp; try with_reducible rfl)
      try simp only [Act.put, List.getElem_toArray, List.getElem_cons_zero, List.getElem_cons_succ, List.setIfInBounds_toArray, List.set_cons_zero, List.set_cons_succ]
      refine wpAnyH_take (i := 26) (oi := _) (v := ?_) rfl (by kernel_rfl) (by kernel_rfl) (by kernel_rfl) (fun _ _ _ h => h) (Or.inl ⟨by rfl, ?_⟩) (by assumption) ?_
      rotate_left
      · (intro w hSw; (try dsimp only at hSw); go_simp; try with_reducible rfl)
      try simp only [Act.put, List.getElem_toArray, List.getElem_cons_zero, List.getElem_cons_succ, List.setIfInBounds_toArray, List.set_cons_zero, List.set_cons_succ]
      refine wpAnyH_take (i := 27) (oi := _) (v := ?_) rfl (by kernel_rfl) (by kernel_rfl) (by kernel_rfl) (fun _ _ _ h => h) (Or.inl ⟨by rfl, ?_⟩) (by assumption) ?_
      rotate_left
      · (intro w hSw; (try dsimp only at hSw); go_simp; try with_reducible rfl)
      try simp only [Act.put, List.getElem_toArray, List.getElem_cons_zero, List.getElem_cons_succ, List.setIfInBounds_toArray, List.set_cons_zero, List.set_cons_succ]
      refine wpAnyH_take (i := 29) (oi := _) (v := ?_) rfl (by kernel_rfl) (by kernel_rfl) (by kernel_rfl) (fun _ _ _ h => h) (Or.inl ⟨by rfl, ?_⟩) (by assumption) ?_
      rotate_left
      · (intro w hSw; (try dsimp only at hSw); go_simp; try with_reducible rfl)
      try simp only [Act.put, List.getElem_toArray, List.getElem_cons_zero, List.getElem_cons_succ, List.setIfInBounds_toArray, List.set_cons_zero, List.set_cons_succ]
      refine wpAnyH_take (i := 30) (oi := _) (v := ?_) rfl (by kernel_rfl) (by kernel_rfl) (by kernel_rfl) (fun _ _ _ h => h) (Or.inl ⟨by rfl, ?_⟩) (by assumption) ?_
      rotate_left
      · (intro w hSw; (try dsimp only at hSw); go_simp; try with_reducible rfl)
      try simp only [Act.put, List.getElem_toArray, List.getElem_cons_zero, List.getElem_cons_succ, List.setIfInBounds_toArray, List.set_cons_zero, List.set_cons_succ]
      refine wpAnyH_ready (rs := [28]) (by kernel_rfl) (by simp) ?_
      refine AllReadyH.cons (o := _) rfl (fun K hK => ?_) AllReadyH.nil
      go_simp
      refine (PF.out _ (by first | exact Below.drew (Below.refl _ _) | exact q_held (by assumption))).mono ?_
      rintro e wa ⟨Aa, ca, rfl, hxa, hb⟩
      have HXA := Lib.hid hxa
      have HLA := Lib.hid (Nat.le_of_eq (strs_len _ hxa))
      clear hxa
      have HBN := Lib.hid hb
      go_wp2_with fail
      refine hK.out _ _ (q_written (QC.next (q_last (by assumption)) HL.out HBN.out)) (fun hHeld => ?_)
      clear hK K hb
      try simp only [Act.put, List.getElem_toArray, List.getElem_cons_zero, List.getElem_cons_succ, List.setIfInBounds_toArray, List.set_cons_zero, List.set_cons_succ]
      refine wpAnyH_ready (rs := [31]) (by kernel_rfl) (by simp) ?_
      refine AllReadyH.cons (o := _) rfl (fun K hK => ?_) AllReadyH.nil
      go_simp
      refine (PR.out _ (by first | exact Below.drew (Below.refl _ _) | exact q_held (by assumption))).mono ?_
      rintro e wb ⟨Ab, cb, rfl, hxb, hb⟩
      have HXA := Lib.hid (strs_on HXA.out hb)
      have HXB := Lib.hid hxb
      clear hxb
      have HBN := Lib.hid hb
      go_wp2_with fail
      refine hK.out _ _ (q_written (QC.next (q_last (by assumption)) HL.out HBN.out)) (fun hHeld => ?_)
      clear hK K hb
      try simp only [Act.put, List.getElem_toArray, List.getElem_cons_zero, List.getElem_cons_succ, List.setIfInBounds_toArray, List.set_cons_zero, List.set_cons_succ]
      refine wpAnyH_ready (rs := [32]) (by kernel_rfl) (by simp) ?_
      refine AllReadyH.cons (o := _) rfl (fun K hK => ?_) AllReadyH.nil
      go_simp
      refine (stexts_yes Aa Ab possl.length ca cb possl wb HPL.out HXA.out HXB.out).mono ?_
      rintro e w' ⟨rfl, hb⟩
      have HBN := Lib.hid hb
      go_wp2_with fail
      refine hK.out _ _ (q_written (QC.next (q_last (by assumption)) HL.out HBN.out)) (fun hHeld => ?_)
      clear hK K hb
      try simp only [Act.put, List.getElem_toArray, List.getElem_cons_zero, List.getElem_cons_succ, List.setIfInBounds_toArray, List.set_cons_zero, List.set_cons_succ]
      refine wpAnyH_take (i := 33) (oi := _) (v := ?_) rfl (by kernel_rfl) (by kernel_rfl) (by kernel_rfl) (fun _ _ _ h => h) (Or.inl ⟨by rfl, ?_⟩) (by assumption) ?_
      rotate_left
      · (intro w hSw; (try dsimp only at hSw); go_simp; try with_reducible rfl)
      try simp only [Act.put, List.getElem_toArray, List.getElem_cons_zero, List.getElem_cons_succ, List.setIfInBounds_toArray, List.set_cons_zero, List.set_cons_succ]
      refine wpAnyH_take (i := 34) (oi := _) (v := ?_) rfl (by kernel_rfl) (by kernel_rfl) (by kernel_rfl) (fun _ _ _ h => h) (Or.inl ⟨by rfl, ?_⟩) (by assumption) ?_
      rotate_left
      · (intro w hSw; (try dsimp only at hSw); go_simp; try with_reducible rfl)
      try simp only [Act.put, List.getElem_toArray, List.getElem_cons_zero, List.getElem_cons_succ, List.setIfInBounds_toArray, List.set_cons_zero, List.set_cons_succ]
      refine wpAnyH_take (i := 35) (oi := _) (v := ?_) rfl (by kernel_rfl) (by kernel_rfl) (by kernel_rfl) (fun _ _ _ h => h) (Or.inl ⟨by rfl, ?_⟩) (by assumption) ?_
      rotate_left
      · (intro w hSw; (try dsimp only at hSw); go_simp; try with_reducible rfl)
      try simp only [Act.put, List.getElem_toArray, List.getElem_cons_zero, List.getElem_cons_succ, List.setIfInBounds_toArray, List.set_cons_zero, List.set_cons_succ]
      refine wpAnyH_take (i := 36) (oi := _) (v := ?_) rfl (by kernel_rfl) (by kernel_rfl) (by kernel_rfl) (fun _ _ _ h => h) (Or.inl ⟨by rfl, ?_⟩) (by assumption) ?_
      rotate_left
      · (intro w hSw; (try dsimp only at hSw); go_simp; try with_reducible rfl)
      try simp only [Act.put, List.getElem_toArray, List.getElem_cons_zero, List.getElem_cons_succ, List.setIfInBounds_toArray, List.set_cons_zero, List.set_cons_succ]
      refine wpAnyH_ready (rs := [37]) (by kernel_rfl) (by simp) ?_
      refine AllReadyH.cons (o := _) rfl (fun K hK => ?_) AllReadyH.nil
      go_simp
      refine (SS.out _ (by first | exact Below.drew (Below.refl _ _) | exact q_held (by assumption))).mono ?_
      rintro e w' ⟨rfl, hb⟩
      have HBN := Lib.hid hb
      go_wp2_with fail
      refine hK.out _ _ (q_written (QC.next (q_last (by assumption)) HL.out HBN.out)) (fun hHeld => ?_)
      clear hK K hb
      try simp only [Act.put, List.getElem_toArray, List.getElem_cons_zero, List.getElem_cons_succ, List.setIfInBounds_toArray, List.set_cons_zero, List.set_cons_succ]
      refine wpAnyH_take (i := 38) (oi := _) (v := ?_) rfl (by kernel_rfl) (by kernel_rfl) (by kernel_rfl) (fun _ _ _ h => h) (Or.inl ⟨by rfl, ?_⟩) (by assumption) ?_
      rotate_left
      · (intro w hSw; (try dsimp only at hSw); go_simp; try with_reducible rfl)
      try simp only [Act.put, List.getElem_toArray, List.getElem_cons_zero, List.getElem_cons_succ, List.setIfInBounds_toArray, List.set_cons_zero, List.set_cons_succ]
      refine wpAnyH_take (i := 39) (oi := _) (v := ?_) rfl (by kernel_rfl) (by kernel_rfl) (by kernel_rfl) (fun _ _ _ h => h) (Or.inl ⟨by rfl, ?_⟩) (by assumption) ?_
      rotate_left
      · (intro w hSw; (try dsimp only at hSw); go_simp; try with_reducible rfl)
      try simp only [Act.put, List.getElem_toArray, List.getElem_cons_zero, List.getElem_cons_succ, List.setIfInBounds_toArray, List.set_cons_zero, List.set_cons_succ]
      refine wpAnyH_ready (rs := [40]) (by kernel_rfl) (by simp) ?_
      refine AllReadyH.cons (o := _) rfl (fun K hK => ?_) AllReadyH.nil
      go_simp
      refine (dawake_any _).mono ?_
      rintro e w' ⟨rfl, hb⟩
      have HBN := Lib.hid hb
      go_wp2_with fail
      refine hK.out _ _ (q_written (QC.next (q_last (by assumption)) HL.out HBN.out)) (fun hHeld => ?_)
      clear hK K hb
      try simp only [Act.put, List.getElem_toArray, List.getElem_cons_zero, List.getElem_cons_succ, List.setIfInBounds_toArray, List.set_cons_zero, List.set_cons_succ]
      refine wpAnyH_take (i := 41) (oi := _) (v := ?_) rfl (by kernel_rfl) (by kernel_rfl) (by kernel_rfl) (fun _ _ _ h => h) (Or.inl ⟨by rfl, ?_⟩) (by assumption) ?_
      rotate_left
      · (intro w hSw; (try dsimp only at hSw); go_simp; try with_reducible rfl)
      try simp only [Act.put, List.getElem_toArray, List.getElem_cons_zero, List.getElem_cons_succ, List.setIfInBounds_toArray, List.set_cons_zero, List.set_cons_succ]
      refine wpAnyH_take (i := 42) (oi := _) (v := ?_) rfl (by kernel_rfl) (by kernel_rfl) (by kernel_rfl) (fun _ _ _ h => h) (Or.inl ⟨by rfl, ?_⟩) (by assumption) ?_
      rotate_left
      · (intro w hSw; (try dsimp only at hSw); go_simp; try with_reducible rfl)
      try simp only [Act.put, List.getElem_toArray, List.getElem_cons_zero, List.getElem_cons_succ, List.setIfInBounds_toArray, List.set_cons_zero, List.set_cons_succ]
      refine wpAnyH_done (by kernel_rfl) ?_ _
      have B9 := Lib.hid (B7.out.trans ((q_held hHeld).mono B7.out.size))
      clear hE z0 z1 z2 y0 y1 y2 hHeld
      go_wp2_with fail
      go_ret
      exact ⟨rfl, B9.out⟩
end Go.Proofs.Ytmamgaifpjgfkaa.LDSays
