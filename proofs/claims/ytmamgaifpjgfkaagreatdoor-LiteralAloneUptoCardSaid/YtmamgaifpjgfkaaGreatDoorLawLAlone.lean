/- The walk of the law LiteralAlone. (gen_alone.py wrote it.) -/
import Derived.Test.YtmamgaifpjgfkaaGreatDoorLtGen
import Derived.Test.YtmamgaifpjgfkaaGreatDoorDfField
namespace Go.Proofs.YtmamgaifpjgfkaaGreatDoor.LLAlone
open Go.RowKit

def QC (wz : World) (cs : List (Nat × Nat × Value)) (W : World) : Prop := (∀ p, p ∈ cs → W.cell? ⟨p.1, p.2.1, none⟩ = some p.2.2) ∧ Below wz.heap.size wz W
theorem QC.next {wz W W' : World} {cs : List (Nat × Nat × Value)} (h : QC wz cs W) (hl : ∀ p, p ∈ cs → p.1 < wz.heap.size) (hb : Below W.heap.size W W') : QC wz cs W' :=
  ⟨fun p hp => (hb.cell (p := ⟨p.1, p.2.1, none⟩) (Nat.lt_of_lt_of_le (hl p hp) h.2.size)).trans (h.1 p hp), h.2.trans (hb.mono h.2.size)⟩
theorem q_written {wz W : World} {a1 b1 a2 b2 a3 b3 a4 b4 a5 b5 a6 b6 a7 b7 a8 b8 a9 b9 a10 b10 a11 b11 a12 b12 a13 b13 a14 b14 : Nat} {v1 v2 v3 v4 v5 v6 v7 v8 v9 v10 v11 v12 v13 v14 : Value} (h : QC wz [(a1, b1, v1), (a2, b2, v2), (a3, b3, v3), (a4, b4, v4), (a5, b5, v5), (a6, b6, v6), (a7, b7, v7), (a8, b8, v8), (a9, b9, v9), (a10, b10, v10), (a11, b11, v11), (a12, b12, v12), (a13, b13, v13), (a14, b14, v14)] W) :
    W.cell? ⟨a1, b1, none⟩ = some v1 ∧ W.cell? ⟨a2, b2, none⟩ = some v2 ∧ W.cell? ⟨a3, b3, none⟩ = some v3 ∧ W.cell? ⟨a4, b4, none⟩ = some v4 ∧ W.cell? ⟨a5, b5, none⟩ = some v5 ∧ W.cell? ⟨a6, b6, none⟩ = some v6 ∧ W.cell? ⟨a7, b7, none⟩ = some v7 ∧ W.cell? ⟨a8, b8, none⟩ = some v8 ∧ W.cell? ⟨a9, b9, none⟩ = some v9 ∧ W.cell? ⟨a10, b10, none⟩ = some v10 ∧ W.cell? ⟨a11, b11, none⟩ = some v11 ∧ W.cell? ⟨a12, b12, none⟩ = some v12 ∧ W.cell? ⟨a13, b13, none⟩ = some v13 ∧ W.cell? ⟨a14, b14, none⟩ = some v14 ∧ QC wz [(a1, b1, v1), (a2, b2, v2), (a3, b3, v3), (a4, b4, v4), (a5, b5, v5), (a6, b6, v6), (a7, b7, v7), (a8, b8, v8), (a9, b9, v9), (a10, b10, v10), (a11, b11, v11), (a12, b12, v12), (a13, b13, v13), (a14, b14, v14)] W :=
  ⟨h.1 (a1, b1, v1) (by simp), h.1 (a2, b2, v2) (by simp), h.1 (a3, b3, v3) (by simp), h.1 (a4, b4, v4) (by simp), h.1 (a5, b5, v5) (by simp), h.1 (a6, b6, v6) (by simp), h.1 (a7, b7, v7) (by simp), h.1 (a8, b8, v8) (by simp), h.1 (a9, b9, v9) (by simp), h.1 (a10, b10, v10) (by simp), h.1 (a11, b11, v11) (by simp), h.1 (a12, b12, v12) (by simp), h.1 (a13, b13, v13) (by simp), h.1 (a14, b14, v14) (by simp), h⟩
theorem q_held {wz W : World} {cs : List (Nat × Nat × Value)} {p1 p2 p3 p4 p5 p6 p7 p8 p9 p10 p11 p12 p13 p14 : Prop} (h : p1 ∧ p2 ∧ p3 ∧ p4 ∧ p5 ∧ p6 ∧ p7 ∧ p8 ∧ p9 ∧ p10 ∧ p11 ∧ p12 ∧ p13 ∧ p14 ∧ QC wz cs W) : Below wz.heap.size wz W := h.2.2.2.2.2.2.2.2.2.2.2.2.2.2.2
theorem q_last {wz W : World} {cs : List (Nat × Nat × Value)} {p1 p2 p3 p4 p5 p6 p7 p8 p9 p10 p11 p12 p13 p14 : Prop} (h : p1 ∧ p2 ∧ p3 ∧ p4 ∧ p5 ∧ p6 ∧ p7 ∧ p8 ∧ p9 ∧ p10 ∧ p11 ∧ p12 ∧ p13 ∧ p14 ∧ QC wz cs W) : QC wz cs W := h.2.2.2.2.2.2.2.2.2.2.2.2.2.2
theorem up_ok {n : List UInt8} {l m : Int} (h : rightT n l m = true) (hl : l ≠ 4) : rightT n (l + 1) (m * 2) = true ∧ rightT n (l + 1) (m * 2 + 1) = true ∧ 0 ≤ m ∧ m < 16 := by
  obtain ⟨h1, h2, h3, h4, h5⟩ := right_true h
  have hs := right_small h
  have e : (l + 1).toNat = l.toNat + 1 := by omega
  have hp : (2 : Int) ^ (l.toNat + 1 + 1) = 2 ^ (l.toNat + 1) * 2 := by rw [Int.pow_succ]
  have hm : m < 16 := by
    have : l = 0 ∨ l = 1 ∨ l = 2 ∨ l = 3 := by omega
    rcases this with rfl | rfl | rfl | rfl
    · have : m < 2 ^ 1 := h5; omega
    · have : m < 2 ^ 2 := h5; omega
    · have : m < 2 ^ 3 := h5; omega
    · have : m < 2 ^ 4 := h5; omega
  exact ⟨right_of h1 (by omega) (by omega) (by omega) (by rw [e, hp]; omega), right_of h1 (by omega) (by omega) (by omega) (by rw [e, hp]; omega), h4, hm⟩
theorem or_one {m : Int} (h0 : 0 ≤ m) (h1 : m < 16) : bits .or .i64 (m * 2) 1 = m * 2 + 1 := by
  have : m = 0 ∨ m = 1 ∨ m = 2 ∨ m = 3 ∨ m = 4 ∨ m = 5 ∨ m = 6 ∨ m = 7 ∨ m = 8 ∨ m = 9 ∨ m = 10 ∨ m = 11 ∨ m = 12 ∨ m = 13 ∨ m = 14 ∨ m = 15 := by omega
  rcases this with rfl | rfl | rfl | rfl | rfl | rfl | rfl | rfl | rfl | rfl | rfl | rfl | rfl | rfl | rfl | rfl <;> decide
set_option maxRecDepth 100000 in
set_option maxHeartbeats 8000000 in
theorem walk (w : World) (S : SchT) (n : ByteArray) (l m : Int) (v : VT) (c0 c1 c2 : Value) (A3 A4 : Option Addr) (k3 k4 : Nat) (hw : Laid5 w) (hz : SlimS S) (hvz : sizeV v ≤ 1100000) (hn : n.size ≤ 9223372036854775807)
    (hS : TS w (fun b => b < w.heap.size) (encSch S) [c0, c1, c2]) (hV : TS w (fun b => b < w.heap.size) (encV v) [.int .i64 v.kd, .int .i64 v.nn, .string v.ss, .slice A3 v.ls.len k3, .slice A4 v.ms.len k4]) :
    Calls Tryz.prog 6 #[.agg #[c0, c1, c2], .agg #[.string n, .int .i64 l, .int .i64 m], .agg #[.int .i64 v.kd, .int .i64 v.nn, .string v.ss, .slice A3 v.ls.len k3, .slice A4 v.ms.len k4]] w fun e w' => e = .returned (.bool true) ∧ Below w.heap.size w w' := by
  obtain ⟨A, k, e, _⟩ := sch_cells hS
  injection e with e0 e
  injection e with e1 e
  injection e with e2 e
  subst e0 e1 e2
  have HW := Lib.hid hw
  have HZ := Lib.hid hz
  have HVZ := Lib.hid hvz
  have HS := Lib.hid hS
  have HV := Lib.hid hV
  have R1 := Lib.hid (fun (wx : World) (h : Below w.heap.size w wx) => right_gen S n (l + 1) (m * 2) v _ _ _ A3 A4 k3 k4 wx w.heap.size h.size (HW.out.below h) HZ.out HVZ.out hn (TS.low h HS.out) (TS.low h HV.out))
  have R2 := Lib.hid (fun (wx : World) (h : Below w.heap.size w wx) => right_gen S n l m v _ _ _ A3 A4 k3 k4 wx w.heap.size h.size (HW.out.below h) HZ.out HVZ.out hn (TS.low h HS.out) (TS.low h HV.out))
  have R3 := Lib.hid (fun (wx : World) (h : Below w.heap.size w wx) => right_gen S n (l + 1) (m * 2 + 1) v _ _ _ A3 A4 k3 k4 wx w.heap.size h.size (HW.out.below h) HZ.out HVZ.out hn (TS.low h HS.out) (TS.low h HV.out))
  have LI := Lib.hid (fun (wx : World) => list_any n l m wx hn)
  have MU := Lib.hid (fun (wx : World) => must_any n (l + 1) (m * 2) wx hn)
  have LG := Lib.hid (fun (wx : World) (h : Below w.heap.size w wx) => lightv_any S v _ _ _ A3 A4 k3 k4 wx (TS.keep (fun b hx => ⟨Nat.lt_of_lt_of_le hx h.size, h.block b hx⟩) _ _ hS) (TS.keep (fun b hx => ⟨Nat.lt_of_lt_of_le hx h.size, h.block b hx⟩) _ _ hV))
  have UP := Lib.hid (fun h h4 => up_ok (n := n.data.toList) (l := l) (m := m) h h4)
  have RI := Lib.hid (fun (l' m' : Int) h1 h2 h3 h4 => right_item S.defs n l' m' v h1 h2 h3 h4)
  clear hw hz hvz hS hV e
  go_enter Tryz.func6, Tryz.ntmps6
  go_upto_region 1 with fail
  have h0 : (((w.alloc (.cells #[.slice A S.defs.length k, .string S.query, .string S.mutation] 24)).alloc (.cells #[.string n, .int .i64 l, .int .i64 m] 26)).alloc (.cells #[.int .i64 v.kd, .int .i64 v.nn, .string v.ss, .slice A3 v.ls.len k3, .slice A4 v.ms.len k4] 30)).heap[w.heap.size]? = some (.cells #[.slice A S.defs.length k, .string S.query, .string S.mutation] 24 (0, 0)) := by
    rw [Below.heap_alloc _ _ _ (by simp; omega), Below.heap_alloc _ _ _ (by simp)]; exact heap_alloc_new _ _
  have h1 : (((w.alloc (.cells #[.slice A S.defs.length k, .string S.query, .string S.mutation] 24)).alloc (.cells #[.string n, .int .i64 l, .int .i64 m] 26)).alloc (.cells #[.int .i64 v.kd, .int .i64 v.nn, .string v.ss, .slice A3 v.ls.len k3, .slice A4 v.ms.len k4] 30)).heap[w.heap.size + 1]? = some (.cells #[.string n, .int .i64 l, .int .i64 m] 26 (0, 0)) := by
    rw [Below.heap_alloc _ _ _ (by simp)]; exact heap_two _ _ _
  have h2 : (((w.alloc (.cells #[.slice A S.defs.length k, .string S.query, .string S.mutation] 24)).alloc (.cells #[.string n, .int .i64 l, .int .i64 m] 26)).alloc (.cells #[.int .i64 v.kd, .int .i64 v.nn, .string v.ss, .slice A3 v.ls.len k3, .slice A4 v.ms.len k4] 30)).heap[w.heap.size + 1 + 1]? = some (.cells #[.int .i64 v.kd, .int .i64 v.nn, .string v.ss, .slice A3 v.ls.len k3, .slice A4 v.ms.len k4] 30 (0, 0)) := by
    have := heap_two (w.alloc (.cells #[.slice A S.defs.length k, .string S.query, .string S.mutation] 24)) (.cells #[.string n, .int .i64 l, .int .i64 m] 26) (.cells #[.int .i64 v.kd, .int .i64 v.nn, .string v.ss, .slice A3 v.ls.len k3, .slice A4 v.ms.len k4] 30)
    simpa using this
  have B1 := Lib.hid (show Below w.heap.size w (((w.alloc (.cells #[.slice A S.defs.length k, .string S.query, .string S.mutation] 24)).alloc (.cells #[.string n, .int .i64 l, .int .i64 m] 26)).alloc (.cells #[.int .i64 v.kd, .int .i64 v.nn, .string v.ss, .slice A3 v.ls.len k3, .slice A4 v.ms.len k4] 30)) from (two_below w _ _).alloc (by simp; omega) _)
  generalize ((w.alloc (.cells #[.slice A S.defs.length k, .string S.query, .string S.mutation] 24)).alloc (.cells #[.string n, .int .i64 l, .int .i64 m] 26)).alloc (.cells #[.int .i64 v.kd, .int .i64 v.nn, .string v.ss, .slice A3 v.ls.len k3, .slice A4 v.ms.len k4] 30) = w1 at h0 h1 h2 B1 ⊢
  generalize w.heap.size + 1 + 1 = gv at h2 ⊢
  generalize w.heap.size + 1 = gt at h1 ⊢
  have H0 := Lib.hid h0
  have H1 := Lib.hid h1
  have H2 := Lib.hid h2
  clear h0 h1 h2
  obtain ⟨y0, y1, y2⟩ := three_cells H1.out
  go_wp2_with fail
  refine (LI.out _).mono ?_
  rintro e w2 ⟨rfl, hb⟩
  have B2 := Lib.hid (B1.out.trans (hb.mono B1.out.size))
  have H0' := Lib.hid ((hb.block _ (Array.getElem?_eq_some_iff.1 H0.out).1).trans H0.out)
  have H1' := Lib.hid ((hb.block _ (Array.getElem?_eq_some_iff.1 H1.out).1).trans H1.out)
  have H2' := Lib.hid ((hb.block _ (Array.getElem?_eq_some_iff.1 H2.out).1).trans H2.out)
  clear hb y0 y1 y2 H0 H1 H2 B1 LI
  unfold listV
  by_cases hl : rightT n.data.toList l m = true ∧ l ≠ 4
  · rw [if_pos hl]
    obtain ⟨u1, u2, u3, u4⟩ := UP.out hl.1 hl.2
    have hmv : mustV n (l + 1) (m * 2) = .agg #[.string n, .int .i64 (l + 1), .int .i64 (m * 2 + 1)] := by
      unfold mustV
      rw [if_pos u1, or_one u3 u4]
    rw [hmv] at MU
    have HI : Hid (v.kd ≠ 6 → v.kd ≠ 8 → v.kd ≠ 0 → rightL S.defs ⟨n, l + 1, m * 2, false, v⟩ = rightL S.defs ⟨n, l, m, false, v⟩ ∧ rightL S.defs ⟨n, l + 1, m * 2 + 1, false, v⟩ = rightL S.defs ⟨n, l, m, false, v⟩) := Lib.hid (fun e6 e8 e0 => by
      have hll := right_small u1
      have hl1 := right_small hl.1
      have a1 := RI.out (l + 1) (m * 2) (by unfold itemB; rw [u1, Bool.true_and, decide_eq_true_eq]; omega) e6 e8 e0
      have a2 := RI.out (l + 1) (m * 2 + 1) (by unfold itemB; rw [u2, Bool.true_and, decide_eq_true_eq]; omega) e6 e8 e0
      rw [show l + 1 - 1 = l by omega, show m * 2 / 2 = m by omega] at a1
      rw [show l + 1 - 1 = l by omega, show (m * 2 + 1) / 2 = m by omega] at a2
      exact ⟨a1, a2⟩)
    unfold yesT
    clear hmv UP RI hl u1 u2 u3 u4
    go_upto_region 2 with fail
    have hb3 := dbelow_new w2 (.cells #[.string n, .int .i64 (l + 1), .int .i64 (m * 2)] 26)
    have h3 := heap_alloc_new w2 (.cells #[.string n, .int .i64 (l + 1), .int .i64 (m * 2)] 26)
    generalize w2.alloc (.cells #[.string n, .int .i64 (l + 1), .int .i64 (m * 2)] 26) = w3 at hb3 h3 ⊢
    generalize w2.heap.size = gl at h3 ⊢
    have B3 := Lib.hid (B2.out.trans (hb3.mono B2.out.size))
    have X0 := Lib.hid ((hb3.block _ (Array.getElem?_eq_some_iff.1 H0'.out).1).trans H0'.out)
    have X1 := Lib.hid ((hb3.block _ (Array.getElem?_eq_some_iff.1 H1'.out).1).trans H1'.out)
    have X2 := Lib.hid ((hb3.block _ (Array.getElem?_eq_some_iff.1 H2'.out).1).trans H2'.out)
    have X3 := Lib.hid h3
    clear hb3 h3 H0' H1' H2' B2
    obtain ⟨y0, y1, y2⟩ := three_cells X0.out
    obtain ⟨z0, z1, z2, z3, z4⟩ := five_box X2.out
    go_wp2_with fail
    refine (LG.out _ B3.out).mono ?_
    rintro e w4 ⟨lt, rfl, hb⟩
    have B4 := Lib.hid (B3.out.trans (hb.mono B3.out.size))
    have I0 := Lib.hid ((hb.block _ (Array.getElem?_eq_some_iff.1 X0.out).1).trans X0.out)
    have I1 := Lib.hid ((hb.block _ (Array.getElem?_eq_some_iff.1 X1.out).1).trans X1.out)
    have I2 := Lib.hid ((hb.block _ (Array.getElem?_eq_some_iff.1 X2.out).1).trans X2.out)
    have I3 := Lib.hid ((hb.block _ (Array.getElem?_eq_some_iff.1 X3.out).1).trans X3.out)
    clear hb X0 X1 X2 X3 B3 y0 y1 y2 z0 z1 z2 z3 z4 LG
    obtain ⟨z0, z1, z2, z3, z4⟩ := five_box I2.out
    cases lt
    · clear z1 z2 z3 z4
      go_wp2_with fail
      refine (awake_any w4 (HW.out.below B4.out)).mono ?_
      rintro e wa ⟨rfl, hba⟩
      have Ba := Lib.hid (B4.out.trans (hba.mono B4.out.size))
      clear hba
      go_wp2_with fail
      go_ret
      exact ⟨rfl, Ba.out⟩
    obtain ⟨b6, g6⟩ : ∃ b, (v.kd == 6) = b := ⟨_, rfl⟩
    cases b6
    case true =>
      go_wp2_with fail
      refine (awake_any w4 (HW.out.below B4.out)).mono ?_
      rintro e wa ⟨rfl, hba⟩
      have Ba := Lib.hid (B4.out.trans (hba.mono B4.out.size))
      clear hba
      go_wp2_with fail
      go_ret
      exact ⟨rfl, Ba.out⟩
    obtain ⟨b8, g8⟩ : ∃ b, (v.kd == 8) = b := ⟨_, rfl⟩
    cases b8
    case true =>
      go_wp2_with fail
      refine (awake_any w4 (HW.out.below B4.out)).mono ?_
      rintro e wa ⟨rfl, hba⟩
      have Ba := Lib.hid (B4.out.trans (hba.mono B4.out.size))
      clear hba
      go_wp2_with fail
      go_ret
      exact ⟨rfl, Ba.out⟩
    obtain ⟨b0, g0⟩ : ∃ b, (v.kd == 0) = b := ⟨_, rfl⟩
    cases b0
    case true =>
      go_wp2_with fail
      refine (awake_any w4 (HW.out.below B4.out)).mono ?_
      rintro e wa ⟨rfl, hba⟩
      have Ba := Lib.hid (B4.out.trans (hba.mono B4.out.size))
      clear hba
      go_wp2_with fail
      go_ret
      exact ⟨rfl, Ba.out⟩
    have hi := HI.out (by simpa using g6) (by simpa using g8) (by simpa using g0)
    rw [hi.1] at R1
    rw [hi.2] at R3
    generalize rightL S.defs ⟨n, l, m, false, v⟩ = rv at R1 R2 R3 hi
    have eb : (rv == rv) = true := by simp
    have HE : Hid (QC w4 [(w.heap.size, 0, (Value.slice A S.defs.length k)), (w.heap.size, 1, (Value.string S.query)), (w.heap.size, 2, (Value.string S.mutation)), (gt, 0, (Value.string n)), (gt, 1, (Value.int .i64 l)), (gt, 2, (Value.int .i64 m)), (gv, 0, (Value.int .i64 v.kd)), (gv, 1, (Value.int .i64 v.nn)), (gv, 2, (Value.string v.ss)), (gv, 3, (Value.slice A3 v.ls.len k3)), (gv, 4, (Value.slice A4 v.ms.len k4)), (gl, 0, (Value.string n)), (gl, 1, (Value.int .i64 (l + 1))), (gl, 2, (Value.int .i64 (m * 2)))] w4) := Lib.hid (by
      obtain ⟨x0, x1, x2⟩ := three_cells I0.out
      obtain ⟨i0, i1, i2⟩ := three_cells I1.out
      obtain ⟨k0, k1, k2⟩ := three_cells I3.out
      refine ⟨fun p hp => ?_, Below.refl _ _⟩
      simp only [List.mem_cons, List.not_mem_nil, or_false] at hp
      rcases hp with rfl | rfl | rfl | rfl | rfl | rfl | rfl | rfl | rfl | rfl | rfl | rfl | rfl | rfl <;> assumption)
    have HL : Hid (∀ p, p ∈ [(w.heap.size, 0, (Value.slice A S.defs.length k)), (w.heap.size, 1, (Value.string S.query)), (w.heap.size, 2, (Value.string S.mutation)), (gt, 0, (Value.string n)), (gt, 1, (Value.int .i64 l)), (gt, 2, (Value.int .i64 m)), (gv, 0, (Value.int .i64 v.kd)), (gv, 1, (Value.int .i64 v.nn)), (gv, 2, (Value.string v.ss)), (gv, 3, (Value.slice A3 v.ls.len k3)), (gv, 4, (Value.slice A4 v.ms.len k4)), (gl, 0, (Value.string n)), (gl, 1, (Value.int .i64 (l + 1))), (gl, 2, (Value.int .i64 (m * 2)))] → p.1 < w4.heap.size) := Lib.hid (fun p hp => by
      have l0 := (Array.getElem?_eq_some_iff.1 I0.out).1
      have l1 := (Array.getElem?_eq_some_iff.1 I1.out).1
      have l2 := (Array.getElem?_eq_some_iff.1 I2.out).1
      have l3 := (Array.getElem?_eq_some_iff.1 I3.out).1
      simp only [List.mem_cons, List.not_mem_nil, or_false] at hp
      rcases hp with rfl | rfl | rfl | rfl | rfl | rfl | rfl | rfl | rfl | rfl | rfl | rfl | rfl | rfl <;> assumption)
    clear hi HI I0 I1 I2 I3
    go_upto_region 4 with fail
    clear z0 z1 z2 z3 z4 g6 g8 g0
    refine wp_region_held_drew (S := (fun w' => w'.cell? ⟨w.heap.size, 0, none⟩ = some (Value.slice A S.defs.length k) ∧ w'.cell? ⟨w.heap.size, 1, none⟩ = some (Value.string S.query) ∧ w'.cell? ⟨w.heap.size, 2, none⟩ = some (Value.string S.mutation) ∧ w'.cell? ⟨gt, 0, none⟩ = some (Value.string n) ∧ w'.cell? ⟨gt, 1, none⟩ = some (Value.int .i64 l) ∧ w'.cell? ⟨gt, 2, none⟩ = some (Value.int .i64 m) ∧ w'.cell? ⟨gv, 0, none⟩ = some (Value.int .i64 v.kd) ∧ w'.cell? ⟨gv, 1, none⟩ = some (Value.int .i64 v.nn) ∧ w'.cell? ⟨gv, 2, none⟩ = some (Value.string v.ss) ∧ w'.cell? ⟨gv, 3, none⟩ = some (Value.slice A3 v.ls.len k3) ∧ w'.cell? ⟨gv, 4, none⟩ = some (Value.slice A4 v.ms.len k4) ∧ w'.cell? ⟨gl, 0, none⟩ = some (Value.string n) ∧ w'.cell? ⟨gl, 1, none⟩ = some (Value.int .i64 (l + 1)) ∧ w'.cell? ⟨gl, 2, none⟩ = some (Value.int .i64 (m * 2)) ∧ QC w4 [(w.heap.size, 0, (Value.slice A S.defs.length k)), (w.heap.size, 1, (Value.string S.query)), (w.heap.size, 2, (Value.string S.mutation)), (gt, 0, (Value.string n)), (gt, 1, (Value.int .i64 l)), (gt, 2, (Value.int .i64 m)), (gv, 0, (Value.int .i64 v.kd)), (gv, 1, (Value.int .i64 v.nn)), (gv, 2, (Value.string v.ss)), (gv, 3, (Value.slice A3 v.ls.len k3)), (gv, 4, (Value.slice A4 v.ms.len k4)), (gl, 0, (Value.string n)), (gl, 1, (Value.int .i64 (l + 1))), (gl, 2, (Value.int .i64 (m * 2)))] w')) (by kernel_rfl) (q_written (HE.out.next HL.out (Below.drew (Below.refl _ _)))) (fun hHeld => ?_)
    refine wpAnyH_take (i := 0) (oi := _) (v := ?_) rfl (by kernel_rfl) (by kernel_rfl) (by kernel_rfl) (fun _ _ _ h => h) (Or.inl ⟨by rfl, ?_⟩) (by assumption) ?_
    rotate_left
    · (intro w hSw; (try dsimp only at hSw); go_simp; try with_reducible rfl)
    try simp only [Act.put, List.getElem_toArray, List.getElem_cons_zero, List.setIfInBounds_toArray, List.set_cons_zero, List.set_cons_succ]
    refine wpAnyH_take (i := 1) (oi := _) (v := ?_) rfl (by kernel_rfl) (by kernel_rfl) (by kernel_rfl) (fun _ _ _ h => h) (Or.inl ⟨by rfl, ?_⟩) (by assumption) ?_
    rotate_left
    · (intro w hSw; (try dsimp only at hSw); go_simp; try with_reducible rfl)
    try simp only [Act.put, List.getElem_toArray, List.getElem_cons_zero, List.getElem_cons_succ, List.setIfInBounds_toArray, List.set_cons_zero, List.set_cons_succ]
    refine wpAnyH_take (i := 2) (oi := _) (v := ?_) rfl (by kernel_rfl) (by kernel_rfl) (by kernel_rfl) (fun _ _ _ h => h) (Or.inl ⟨by rfl, ?_⟩) (by assumption) ?_
    rotate_left
    · (intro w hSw; (try dsimp only at hSw); go_simp; try with_reducible rfl)
    try simp only [Act.put, List.getElem_toArray, List.getElem_cons_zero, List.getElem_cons_succ, List.setIfInBounds_toArray, List.set_cons_zero, List.set_cons_succ]
    refine wpAnyH_take (i := 4) (oi := _) (v := ?_) rfl (by kernel_rfl) (by kernel_rfl) (by kernel_rfl) (fun _ _ _ h => h) (Or.inl ⟨by rfl, ?_⟩) (by assumption) ?_
    rotate_left
    · (intro w hSw; (try dsimp only at hSw); go_simp; try with_reducible rfl)
    try simp only [Act.put, List.getElem_toArray, List.getElem_cons_zero, List.getElem_cons_succ, List.setIfInBounds_toArray, List.set_cons_zero, List.set_cons_succ]
    refine wpAnyH_take (i := 5) (oi := _) (v := ?_) rfl (by kernel_rfl) (by kernel_rfl) (by kernel_rfl) (fun _ _ _ h => h) (Or.inl ⟨by rfl, ?_⟩) (by assumption) ?_
    rotate_left
    · (intro w hSw; (try dsimp only at hSw); go_simp; try with_reducible rfl)
    try simp only [Act.put, List.getElem_toArray, List.getElem_cons_zero, List.getElem_cons_succ, List.setIfInBounds_toArray, List.set_cons_zero, List.set_cons_succ]
    refine wpAnyH_take (i := 6) (oi := _) (v := ?_) rfl (by kernel_rfl) (by kernel_rfl) (by kernel_rfl) (fun _ _ _ h => h) (Or.inl ⟨by rfl, ?_⟩) (by assumption) ?_
    rotate_left
    · (intro w hSw; (try dsimp only at hSw); go_simp; try with_reducible rfl)
    try simp only [Act.put, List.getElem_toArray, List.getElem_cons_zero, List.getElem_cons_succ, List.setIfInBounds_toArray, List.set_cons_zero, List.set_cons_succ]
    refine wpAnyH_ready (rs := [3]) (by kernel_rfl) (by simp) ?_
    refine AllReadyH.cons (o := _) rfl (fun K hK => ?_) AllReadyH.nil
    go_simp
    refine (R1.out _ (B4.out.trans (Below.mono (by first | exact q_held (by assumption) | exact Below.drew (Below.refl _ _)) B4.out.size))).mono ?_
    rintro e w' ⟨rfl, hb⟩
    have HBN := Lib.hid hb
    go_wp2_with fail
    refine hK.out _ _ (q_written (QC.next (q_last (by assumption)) HL.out HBN.out)) (fun hHeld => ?_)
    clear hK K
    try simp only [Act.put, List.getElem_toArray, List.getElem_cons_zero, List.getElem_cons_succ, List.setIfInBounds_toArray, List.set_cons_zero, List.set_cons_succ]
    refine wpAnyH_ready (rs := [7]) (by kernel_rfl) (by simp) ?_
    refine AllReadyH.cons (o := _) rfl (fun K hK => ?_) AllReadyH.nil
    go_simp
    refine (R2.out _ (B4.out.trans (Below.mono (by first | exact q_held (by assumption) | exact Below.drew (Below.refl _ _)) B4.out.size))).mono ?_
    rintro e w' ⟨rfl, hb⟩
    have HBN := Lib.hid hb
    go_wp2_with fail
    refine hK.out _ _ (q_written (QC.next (q_last (by assumption)) HL.out HBN.out)) (fun hHeld => ?_)
    clear hK K
    try simp only [Act.put, List.getElem_toArray, List.getElem_cons_zero, List.getElem_cons_succ, List.setIfInBounds_toArray, List.set_cons_zero, List.set_cons_succ]
    refine wpAnyH_take (i := 8) (oi := _) (v := ?_) rfl (by kernel_rfl) (by kernel_rfl) (by kernel_rfl) (fun _ _ _ h => h) (Or.inl ⟨by rfl, ?_⟩) (by assumption) ?_
    rotate_left
    · (intro w hSw; (try dsimp only at hSw); go_simp; try with_reducible rfl)
    try simp only [Act.put, List.getElem_toArray, List.getElem_cons_zero, List.getElem_cons_succ, List.setIfInBounds_toArray, List.set_cons_zero, List.set_cons_succ]
    refine wpAnyH_take (i := 9) (oi := _) (v := ?_) rfl (by kernel_rfl) (by kernel_rfl) (by kernel_rfl) (fun _ _ _ h => h) (Or.inl ⟨by rfl, ?_⟩) (by assumption) ?_
    rotate_left
    · (intro w hSw; (try dsimp only at hSw); go_simp; try with_reducible rfl)
    try simp only [Act.put, List.getElem_toArray, List.getElem_cons_zero, List.getElem_cons_succ, List.setIfInBounds_toArray, List.set_cons_zero, List.set_cons_succ]
    refine wpAnyH_take (i := 10) (oi := _) (v := ?_) rfl (by kernel_rfl) (by kernel_rfl) (by kernel_rfl) (fun _ _ _ h => h) (Or.inl ⟨by rfl, ?_⟩) (by assumption) ?_
    rotate_left
    · (intro w hSw; (try dsimp only at hSw); go_simp; try with_reducible rfl)
    try simp only [Act.put, List.getElem_toArray, List.getElem_cons_zero, List.getElem_cons_succ, List.setIfInBounds_toArray, List.set_cons_zero, List.set_cons_succ]
    refine wpAnyH_take (i := 11) (oi := _) (v := ?_) rfl (by kernel_rfl) (by kernel_rfl) (by kernel_rfl) (fun _ _ _ h => h) (Or.inl ⟨by rfl, ?_⟩) (by assumption) ?_
    rotate_left
    · (intro w hSw; (try dsimp only at hSw); go_simp; try with_reducible rfl)
    try simp only [Act.put, List.getElem_toArray, List.getElem_cons_zero, List.getElem_cons_succ, List.setIfInBounds_toArray, List.set_cons_zero, List.set_cons_succ]
    refine wpAnyH_take (i := 13) (oi := _) (v := ?_) rfl (by kernel_rfl) (by kernel_rfl) (by kernel_rfl) (fun _ _ _ h => h) (Or.inl ⟨by rfl, ?_⟩) (by assumption) ?_
    rotate_left
    · (intro w hSw; (try dsimp only at hSw); go_simp; try with_reducible rfl)
    try simp only [Act.put, List.getElem_toArray, List.getElem_cons_zero, List.getElem_cons_succ, List.setIfInBounds_toArray, List.set_cons_zero, List.set_cons_succ]
    refine wpAnyH_take (i := 15) (oi := _) (v := ?_) rfl (by kernel_rfl) (by kernel_rfl) (by kernel_rfl) (fun _ _ _ h => h) (Or.inl ⟨by rfl, ?_⟩) (by assumption) ?_
    rotate_left
    · (intro w hSw; (try dsimp only at hSw); go_simp; try with_reducible rfl)
    try simp only [Act.put, List.getElem_toArray, List.getElem_cons_zero, List.getElem_cons_succ, List.setIfInBounds_toArray, List.set_cons_zero, List.set_cons_succ]
    refine wpAnyH_take (i := 16) (oi := _) (v := ?_) rfl (by kernel_rfl) (by kernel_rfl) (by kernel_rfl) (fun _ _ _ h => h) (Or.inl ⟨by rfl, ?_⟩) (by assumption) ?_
    rotate_left
    · (intro w hSw; (try dsimp only at hSw); go_simp; try with_reducible rfl)
    try simp only [Act.put, List.getElem_toArray, List.getElem_cons_zero, List.getElem_cons_succ, List.setIfInBounds_toArray, List.set_cons_zero, List.set_cons_succ]
    refine wpAnyH_take (i := 17) (oi := _) (v := ?_) rfl (by kernel_rfl) (by kernel_rfl) (by kernel_rfl) (fun _ _ _ h => h) (Or.inl ⟨by rfl, ?_⟩) (by assumption) ?_
    rotate_left
    · (intro w hSw; (try dsimp only at hSw); go_simp; try with_reducible rfl)
    try simp only [Act.put, List.getElem_toArray, List.getElem_cons_zero, List.getElem_cons_succ, List.setIfInBounds_toArray, List.set_cons_zero, List.set_cons_succ]
    refine wpAnyH_ready (rs := [12]) (by kernel_rfl) (by simp) ?_
    refine AllReadyH.cons (o := _) rfl (fun K hK => ?_) AllReadyH.nil
    go_simp
    refine (MU.out _).mono ?_
    rintro e w' ⟨rfl, hb⟩
    have HBN := Lib.hid hb
    go_wp2_with fail
    refine hK.out _ _ (q_written (QC.next (q_last (by assumption)) HL.out HBN.out)) (fun hHeld => ?_)
    clear hK K
    try simp only [Act.put, List.getElem_toArray, List.getElem_cons_zero, List.getElem_cons_succ, List.setIfInBounds_toArray, List.set_cons_zero, List.set_cons_succ]
    refine wpAnyH_ready (rs := [14]) (by kernel_rfl) (by simp) ?_
    refine AllReadyH.cons (o := _) rfl (fun K hK => ?_) AllReadyH.nil
    go_simp
    refine (R3.out _ (B4.out.trans (Below.mono (by first | exact q_held (by assumption) | exact Below.drew (Below.refl _ _)) B4.out.size))).mono ?_
    rintro e w' ⟨rfl, hb⟩
    have HBN := Lib.hid hb
    go_wp2_with fail
    refine hK.out _ _ (q_written (QC.next (q_last (by assumption)) HL.out HBN.out)) (fun hHeld => ?_)
    clear hK K
    try simp only [Act.put, List.getElem_toArray, List.getElem_cons_zero, List.getElem_cons_succ, List.setIfInBounds_toArray, List.set_cons_zero, List.set_cons_succ]
    refine wpAnyH_ready (rs := [18]) (by kernel_rfl) (by simp) ?_
    refine AllReadyH.cons (o := _) rfl (fun K hK => ?_) AllReadyH.nil
    go_simp
    refine (R2.out _ (B4.out.trans (Below.mono (by first | exact q_held (by assumption) | exact Below.drew (Below.refl _ _)) B4.out.size))).mono ?_
    rintro e w' ⟨rfl, hb⟩
    have HBN := Lib.hid hb
    go_wp2_with fail
    refine hK.out _ _ (q_written (QC.next (q_last (by assumption)) HL.out HBN.out)) (fun hHeld => ?_)
    clear hK K
    try simp only [Act.put, List.getElem_toArray, List.getElem_cons_zero, List.getElem_cons_succ, List.setIfInBounds_toArray, List.set_cons_zero, List.set_cons_succ]
    refine wpAnyH_take (i := 19) (oi := _) (v := ?_) rfl (by kernel_rfl) (by kernel_rfl) (by kernel_rfl) (fun _ _ _ h => h) (Or.inl ⟨by rfl, ?_⟩) (by assumption) ?_
    rotate_left
    · (intro w hSw; (try dsimp only at hSw); go_simp; try with_reducible rfl)
    try simp only [Act.put, List.getElem_toArray, List.getElem_cons_zero, List.getElem_cons_succ, List.setIfInBounds_toArray, List.set_cons_zero, List.set_cons_succ]
    refine wpAnyH_take (i := 20) (oi := _) (v := ?_) rfl (by kernel_rfl) (by kernel_rfl) (by kernel_rfl) (fun _ _ _ h => h) (Or.inl ⟨by rfl, ?_⟩) (by assumption) ?_
    rotate_left
    · (intro w hSw; (try dsimp only at hSw); go_simp; try with_reducible rfl)
    try simp only [Act.put, List.getElem_toArray, List.getElem_cons_zero, List.getElem_cons_succ, List.setIfInBounds_toArray, List.set_cons_zero, List.set_cons_succ]
    refine wpAnyH_take (i := 21) (oi := _) (v := ?_) rfl (by kernel_rfl) (by kernel_rfl) (by kernel_rfl) (fun _ _ _ h => h) (Or.inl ⟨by rfl, ?_⟩) (by assumption) ?_
    rotate_left
    · (intro w hSw; (try dsimp only at hSw); go_simp; try with_reducible rfl)
    try simp only [Act.put, List.getElem_toArray, List.getElem_cons_zero, List.getElem_cons_succ, List.setIfInBounds_toArray, List.set_cons_zero, List.set_cons_succ]
    refine wpAnyH_ready (rs := [22]) (by kernel_rfl) (by simp) ?_
    refine AllReadyH.cons (o := _) rfl (fun K hK => ?_) AllReadyH.nil
    go_simp
    refine (awake_any _ (HW.out.below (B4.out.trans (Below.mono (by first | exact q_held (by assumption) | exact Below.drew (Below.refl _ _)) B4.out.size)))).mono ?_
    rintro e w' ⟨rfl, hb⟩
    have HBN := Lib.hid hb
    go_wp2_with fail
    refine hK.out _ _ (q_written (QC.next (q_last (by assumption)) HL.out HBN.out)) (fun hHeld => ?_)
    clear hK K
    try simp only [Act.put, List.getElem_toArray, List.getElem_cons_zero, List.getElem_cons_succ, List.setIfInBounds_toArray, List.set_cons_zero, List.set_cons_succ]
    refine wpAnyH_take (i := 23) (oi := _) (v := ?_) rfl (by kernel_rfl) (by kernel_rfl) (by kernel_rfl) (fun _ _ _ h => h) (Or.inl ⟨by rfl, ?_⟩) (by assumption) ?_
    rotate_left
    · (intro w hSw; (try dsimp only at hSw); go_simp; try with_reducible rfl)
    try simp only [Act.put, List.getElem_toArray, List.getElem_cons_zero, List.getElem_cons_succ, List.setIfInBounds_toArray, List.set_cons_zero, List.set_cons_succ]
    refine wpAnyH_take (i := 24) (oi := _) (v := ?_) rfl (by kernel_rfl) (by kernel_rfl) (by kernel_rfl) (fun _ _ _ h => h) (Or.inl ⟨by rfl, ?_⟩) (by assumption) ?_
    rotate_left
    · (intro w hSw; (try dsimp only at hSw); go_simp; try with_reducible rfl)
    try simp only [Act.put, List.getElem_toArray, List.getElem_cons_zero, List.getElem_cons_succ, List.setIfInBounds_toArray, List.set_cons_zero, List.set_cons_succ]
    refine wpAnyH_done (by kernel_rfl) ?_ _
    have B9 := Lib.hid (B4.out.trans ((q_held hHeld).mono B4.out.size))
    clear hHeld
    go_wp2_with fail
    go_ret
    exact ⟨rfl, B9.out⟩
  · rw [if_neg hl]
    unfold noT
    clear UP RI hl R1 R2 R3 MU
    go_upto_region 2 with fail
    have hb3 := dbelow_new w2 (.cells #[.string ⟨#[]⟩, .int .i64 0, .int .i64 0] 26)
    have h3 := heap_alloc_new w2 (.cells #[.string ⟨#[]⟩, .int .i64 0, .int .i64 0] 26)
    generalize w2.alloc (.cells #[.string ⟨#[]⟩, .int .i64 0, .int .i64 0] 26) = w3 at hb3 h3 ⊢
    generalize w2.heap.size = gl at h3 ⊢
    have B3 := Lib.hid (B2.out.trans (hb3.mono B2.out.size))
    have X0 := Lib.hid ((hb3.block _ (Array.getElem?_eq_some_iff.1 H0'.out).1).trans H0'.out)
    have X1 := Lib.hid ((hb3.block _ (Array.getElem?_eq_some_iff.1 H1'.out).1).trans H1'.out)
    have X2 := Lib.hid ((hb3.block _ (Array.getElem?_eq_some_iff.1 H2'.out).1).trans H2'.out)
    have X3 := Lib.hid h3
    clear hb3 h3 H0' H1' H2' B2
    obtain ⟨y0, y1, y2⟩ := three_cells X0.out
    obtain ⟨z0, z1, z2, z3, z4⟩ := five_box X2.out
    go_wp2_with fail
    refine (LG.out _ B3.out).mono ?_
    rintro e w4 ⟨lt, rfl, hb⟩
    have B4 := Lib.hid (B3.out.trans (hb.mono B3.out.size))
    have I0 := Lib.hid ((hb.block _ (Array.getElem?_eq_some_iff.1 X0.out).1).trans X0.out)
    have I1 := Lib.hid ((hb.block _ (Array.getElem?_eq_some_iff.1 X1.out).1).trans X1.out)
    have I2 := Lib.hid ((hb.block _ (Array.getElem?_eq_some_iff.1 X2.out).1).trans X2.out)
    have I3 := Lib.hid ((hb.block _ (Array.getElem?_eq_some_iff.1 X3.out).1).trans X3.out)
    clear hb X0 X1 X2 X3 B3 y0 y1 y2 z0 z1 z2 z3 z4 LG
    obtain ⟨z0, z1, z2, z3, z4⟩ := five_box I2.out
    cases lt
    · clear z1 z2 z3 z4
      go_wp2_with fail
      refine (awake_any w4 (HW.out.below B4.out)).mono ?_
      rintro e wa ⟨rfl, hba⟩
      have Ba := Lib.hid (B4.out.trans (hba.mono B4.out.size))
      clear hba
      go_wp2_with fail
      go_ret
      exact ⟨rfl, Ba.out⟩
    · clear z1 z2 z3 z4
      go_wp2_with fail
      refine (awake_any w4 (HW.out.below B4.out)).mono ?_
      rintro e wa ⟨rfl, hba⟩
      have Ba := Lib.hid (B4.out.trans (hba.mono B4.out.size))
      clear hba
      go_wp2_with fail
      go_ret
      exact ⟨rfl, Ba.out⟩
end Go.Proofs.YtmamgaifpjgfkaaGreatDoor.LLAlone
