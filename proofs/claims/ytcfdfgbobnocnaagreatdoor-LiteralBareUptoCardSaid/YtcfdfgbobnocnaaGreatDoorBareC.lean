/- The law LiteralBare is proved: for every input, where the arguments are together of bulk at most 1048576 the law answers true, and its arguments read behind it as they did. Condition: the listed package variables (seine/letters.shapes, the library's strconv.ErrRange, its table of powers and their like) hold what the program's text lays in them (the card ties that). -/
import Derived.Test.YtcfdfgbobnocnaaGreatDoorLtLast
import Derived.Test.YtcfdfgbobnocnaaGreatDoorLtAwake
namespace Go.Proofs.YtcfdfgbobnocnaaGreatDoor.LLBare
open Go.RowKit

def QC (wz : World) (cs : List (Nat × Nat × Value)) (W : World) : Prop := (∀ p, p ∈ cs → W.cell? ⟨p.1, p.2.1, none⟩ = some p.2.2) ∧ Below wz.heap.size wz W
theorem QC.next {wz W W' : World} {cs : List (Nat × Nat × Value)} (h : QC wz cs W) (hl : ∀ p, p ∈ cs → p.1 < wz.heap.size) (hb : Below W.heap.size W W') : QC wz cs W' :=
  ⟨fun p hp => (hb.cell (p := ⟨p.1, p.2.1, none⟩) (Nat.lt_of_lt_of_le (hl p hp) h.2.size)).trans (h.1 p hp), h.2.trans (hb.mono h.2.size)⟩
theorem q_written {wz W : World} {a1 b1 a2 b2 a3 b3 a4 b4 a5 b5 a6 b6 a7 b7 a8 b8 a9 b9 a10 b10 a11 b11 : Nat} {v1 v2 v3 v4 v5 v6 v7 v8 v9 v10 v11 : Value} (h : QC wz [(a1, b1, v1), (a2, b2, v2), (a3, b3, v3), (a4, b4, v4), (a5, b5, v5), (a6, b6, v6), (a7, b7, v7), (a8, b8, v8), (a9, b9, v9), (a10, b10, v10), (a11, b11, v11)] W) :
    W.cell? ⟨a1, b1, none⟩ = some v1 ∧ W.cell? ⟨a2, b2, none⟩ = some v2 ∧ W.cell? ⟨a3, b3, none⟩ = some v3 ∧ W.cell? ⟨a4, b4, none⟩ = some v4 ∧ W.cell? ⟨a5, b5, none⟩ = some v5 ∧ W.cell? ⟨a6, b6, none⟩ = some v6 ∧ W.cell? ⟨a7, b7, none⟩ = some v7 ∧ W.cell? ⟨a8, b8, none⟩ = some v8 ∧ W.cell? ⟨a9, b9, none⟩ = some v9 ∧ W.cell? ⟨a10, b10, none⟩ = some v10 ∧ W.cell? ⟨a11, b11, none⟩ = some v11 ∧ QC wz [(a1, b1, v1), (a2, b2, v2), (a3, b3, v3), (a4, b4, v4), (a5, b5, v5), (a6, b6, v6), (a7, b7, v7), (a8, b8, v8), (a9, b9, v9), (a10, b10, v10), (a11, b11, v11)] W :=
  ⟨h.1 (a1, b1, v1) (by simp), h.1 (a2, b2, v2) (by simp), h.1 (a3, b3, v3) (by simp), h.1 (a4, b4, v4) (by simp), h.1 (a5, b5, v5) (by simp), h.1 (a6, b6, v6) (by simp), h.1 (a7, b7, v7) (by simp), h.1 (a8, b8, v8) (by simp), h.1 (a9, b9, v9) (by simp), h.1 (a10, b10, v10) (by simp), h.1 (a11, b11, v11) (by simp), h⟩
theorem q_held {wz W : World} {cs : List (Nat × Nat × Value)} {p1 p2 p3 p4 p5 p6 p7 p8 p9 p10 p11 : Prop} (h : p1 ∧ p2 ∧ p3 ∧ p4 ∧ p5 ∧ p6 ∧ p7 ∧ p8 ∧ p9 ∧ p10 ∧ p11 ∧ QC wz cs W) : Below wz.heap.size wz W := h.2.2.2.2.2.2.2.2.2.2.2.2
theorem q_last {wz W : World} {cs : List (Nat × Nat × Value)} {p1 p2 p3 p4 p5 p6 p7 p8 p9 p10 p11 : Prop} (h : p1 ∧ p2 ∧ p3 ∧ p4 ∧ p5 ∧ p6 ∧ p7 ∧ p8 ∧ p9 ∧ p10 ∧ p11 ∧ QC wz cs W) : QC wz cs W := h.2.2.2.2.2.2.2.2.2.2.2
theorem bare_eq {n : ByteArray} {l m : Int} (h : rightT n.data.toList l m = true) : bareV n l m = .agg #[.string n, .int .i64 l, .int .i64 (2 * (m / 2))] ∧ mustV n l m = .agg #[.string n, .int .i64 l, .int .i64 (2 * (m / 2) + 1)] := by
  have hs := right_small h
  obtain ⟨h1, h2⟩ := last_bits hs.2.2.1 hs.2.2.2
  unfold bareV mustV
  rw [if_pos h, if_pos h, h1, h2]
  exact ⟨rfl, rfl⟩
set_option maxRecDepth 100000 in
set_option maxHeartbeats 8000000 in
theorem walk (w : World) (S : SchT) (n : ByteArray) (l m : Int) (v : VT) (c0 c1 c2 : Value) (A3 A4 : Option Addr) (k3 k4 : Nat) (hw : Laid5 w) (hz : SlimS S) (hvz : sizeV v ≤ 1100000) (hn : n.size ≤ 9223372036854775807)
    (hS : TS w (fun b => b < w.heap.size) (encSch S) [c0, c1, c2]) (hV : TS w (fun b => b < w.heap.size) (encV v) [.int .i64 v.kd, .int .i64 v.nn, .string v.ss, .slice A3 v.ls.len k3, .slice A4 v.ms.len k4]) :
    Calls Tryz.prog 5 #[.agg #[c0, c1, c2], .agg #[.string n, .int .i64 l, .int .i64 m], .agg #[.int .i64 v.kd, .int .i64 v.nn, .string v.ss, .slice A3 v.ls.len k3, .slice A4 v.ms.len k4]] w fun e w' => e = .returned (.bool true) ∧ Below w.heap.size w w' := by
  obtain ⟨A, k, e, _⟩ := sch_cells hS
  injection e with e0 e
  injection e with e1 e
  injection e with e2 e
  subst e0 e1 e2
  have HW := Lib.hid hw
  have HZ := Lib.hid hz
  have HVZ := Lib.hid hvz
  have HS := Lib.hid hS
  have HV := Lib.hid hV
  have R1 := Lib.hid (fun (wx : World) (h : Below w.heap.size w wx) => right_gen S n l (2 * (m / 2)) v _ _ _ A3 A4 k3 k4 wx w.heap.size h.size (HW.out.below h) HZ.out HVZ.out hn (TS.low h HS.out) (TS.low h HV.out))
  have R2 := Lib.hid (fun (wx : World) (h : Below w.heap.size w wx) => right_gen S n l (2 * (m / 2) + 1) v _ _ _ A3 A4 k3 k4 wx w.heap.size h.size (HW.out.below h) HZ.out HVZ.out hn (TS.low h HS.out) (TS.low h HV.out))
  have R3 := Lib.hid (fun (wx : World) (h : Below w.heap.size w wx) => right_gen S n l m (.mk 0 0 ⟨#[]⟩ .nil .nil) _ _ _ none none 0 0 wx w.heap.size h.size (HW.out.below h) HZ.out (by decide) hn (TS.low h HS.out) (leaf_ts 0 0 ⟨#[]⟩ (by decide)))
  have WR := Lib.hid (fun (wx : World) => wright_any n l m wx hn)
  have IS := Lib.hid (fun (wx : World) => wis_any n l m wx hn)
  have BA := Lib.hid (fun (wx : World) => bare_any n l m wx hn)
  have MU := Lib.hid (fun (wx : World) => must_any n l m wx hn)
  have LG := Lib.hid (fun (wx : World) (h : Below w.heap.size w wx) => lightv_any S v _ _ _ A3 A4 k3 k4 wx (TS.keep (fun b hx => ⟨Nat.lt_of_lt_of_le hx h.size, h.block b hx⟩) _ _ hS) (TS.keep (fun b hx => ⟨Nat.lt_of_lt_of_le hx h.size, h.block b hx⟩) _ _ hV))
  have HB := Lib.hid (fun h => bare_must (D := S.defs) (n := n) (l := l) (m := m) v h)
  have HN := Lib.hid (fun h => zero_right (D := S.defs) (n := n) (l := l) (m := m) h)
  have HE := Lib.hid (fun h => bare_eq (n := n) (l := l) (m := m) h)
  clear hw hz hvz hS hV e
  go_enter Tryz.func5, Tryz.ntmps5
  go_upto_region 1 with fail
  have h0 : (((w.alloc (.cells #[.slice A S.defs.length k, .string S.query, .string S.mutation] 24)).alloc (.cells #[.string n, .int .i64 l, .int .i64 m] 26)).alloc (.cells #[.int .i64 v.kd, .int .i64 v.nn, .string v.ss, .slice A3 v.ls.len k3, .slice A4 v.ms.len k4] 30)).heap[w.heap.size]? = some (.cells #[.slice A S.defs.length k, .string S.query, .string S.mutation] 24 (0, 0)) := by
    rw [Below.heap_alloc _ _ _ (by simp; omega), Below.heap_alloc _ _ _ (by simp)]; exact heap_alloc_new _ _
  have h1 : (((w.alloc (.cells #[.slice A S.defs.length k, .string S.query, .string S.mutation] 24)).alloc (.cells #[.string n, .int .i64 l, .int .i64 m] 26)).alloc (.cells #[.int .i64 v.kd, .int .i64 v.nn, .string v.ss, .slice A3 v.ls.len k3, .slice A4 v.ms.len k4] 30)).heap[w.heap.size + 1]? = some (.cells #[.string n, .int .i64 l, .int .i64 m] 26 (0, 0)) := by
    rw [Below.heap_alloc _ _ _ (by simp)]; exact heap_two _ _ _
  have h2 : (((w.alloc (.cells #[.slice A S.defs.length k, .string S.query, .string S.mutation] 24)).alloc (.cells #[.string n, .int .i64 l, .int .i64 m] 26)).alloc (.cells #[.int .i64 v.kd, .int .i64 v.nn, .string v.ss, .slice A3 v.ls.len k3, .slice A4 v.ms.len k4] 30)).heap[w.heap.size + 1 + 1]? = some (.cells #[.int .i64 v.kd, .int .i64 v.nn, .string v.ss, .slice A3 v.ls.len k3, .slice A4 v.ms.len k4] 30 (0, 0)) := by
    have := heap_two (w.alloc (.cells #[.slice A S.defs.length k, .string S.query, .string S.mutation] 24)) (.cells #[.string n, .int .i64 l, .int .i64 m] 26) (.cells #[.int .i64 v.kd, .int .i64 v.nn, .string v.ss, .slice A3 v.ls.len k3, .slice A4 v.ms.len k4] 30)
    simpa using this
  have B1 := Lib.hid (show Below w.heap.size w (((w.alloc (.cells #[.slice A S.defs.length k, .string S.query, .string S.mutation] 24)).alloc (.cells #[.string n, .int .i64 l, .int .i64 m] 26)).alloc (.cells #[.int .i64 v.kd, .int .i64 v.nn, .string v.ss, .slice A3 v.ls.len k3, .slice A4 v.ms.len k4] 30)) from (two_below w _ _).alloc (by simp; omega) _)
  generalize ((w.alloc (.cells #[.slice A S.defs.length k, .string S.query, .string S.mutation] 24)).alloc (.cells #[.string n, .int .i64 l, .int .i64 m] 26)).alloc (.cells #[.int .i64 v.kd, .int .i64 v.nn, .string v.ss, .slice A3 v.ls.len k3, .slice A4 v.ms.len k4] 30) = w1 at h0 h1 h2 B1 ⊢
  generalize w.heap.size + 1 + 1 = gv at h2 ⊢
  generalize w.heap.size + 1 = gt at h1 ⊢
  have H0 := Lib.hid h0
  have H1 := Lib.hid h1
  have H2 := Lib.hid h2
  clear h0 h1 h2
  obtain ⟨y0, y1, y2⟩ := three_cells H0.out
  obtain ⟨z0, z1, z2, z3, z4⟩ := five_box H2.out
  go_wp2_with fail
  refine (LG.out _ B1.out).mono ?_
  rintro e w4 ⟨lt, rfl, hb⟩
  have B4 := Lib.hid (B1.out.trans (hb.mono B1.out.size))
  have I0 := Lib.hid ((hb.block _ (Array.getElem?_eq_some_iff.1 H0.out).1).trans H0.out)
  have I1 := Lib.hid ((hb.block _ (Array.getElem?_eq_some_iff.1 H1.out).1).trans H1.out)
  have I2 := Lib.hid ((hb.block _ (Array.getElem?_eq_some_iff.1 H2.out).1).trans H2.out)
  clear hb y0 y1 y2 z0 z1 z2 z3 z4 LG H0 H1 H2 B1
  cases lt
  · clear WR IS BA MU R1 R2 R3 HB HN HE
    go_wp2_with fail
    refine (awake_any w4 (HW.out.below B4.out)).mono ?_
    rintro e wa ⟨rfl, hba⟩
    have Ba := Lib.hid (B4.out.trans (hba.mono B4.out.size))
    clear hba
    go_wp2_with fail
    go_ret
    exact ⟨rfl, Ba.out⟩
  obtain ⟨y0, y1, y2⟩ := three_cells I1.out
  obtain ⟨rt, grt⟩ : ∃ b, rightT n.data.toList l m = b := ⟨_, rfl⟩
  rw [grt] at WR
  go_wp2_with fail
  refine (WR.out _).mono ?_
  rintro e w5 ⟨rfl, hb⟩
  have B5 := Lib.hid (B4.out.trans (hb.mono B4.out.size))
  have J0 := Lib.hid ((hb.block _ (Array.getElem?_eq_some_iff.1 I0.out).1).trans I0.out)
  have J1 := Lib.hid ((hb.block _ (Array.getElem?_eq_some_iff.1 I1.out).1).trans I1.out)
  have J2 := Lib.hid ((hb.block _ (Array.getElem?_eq_some_iff.1 I2.out).1).trans I2.out)
  clear hb y0 y1 y2 WR I0 I1 I2 B4
  cases rt
  · clear IS BA MU R1 R2 R3 HB HN HE
    go_wp2_with fail
    refine (awake_any w5 (HW.out.below B5.out)).mono ?_
    rintro e wa ⟨rfl, hba⟩
    have Ba := Lib.hid (B5.out.trans (hba.mono B5.out.size))
    clear hba
    go_wp2_with fail
    go_ret
    exact ⟨rfl, Ba.out⟩
  have hi := HB.out grt
  rw [(HE.out grt).1] at BA
  rw [(HE.out grt).2] at MU
  rw [HN.out grt] at R3
  generalize rightL S.defs ⟨n, l, 2 * (m / 2), false, v⟩ = ra at R1 hi
  generalize rightL S.defs ⟨n, l, 2 * (m / 2) + 1, false, v⟩ = rb at R2 hi
  generalize isB n.data.toList l m = ib at R3 IS
  generalize 2 * (m / 2) + 1 = m1 at MU R2
  generalize 2 * (m / 2) = m0 at BA R1
  clear HB HE HN grt
  have HI := Lib.hid hi
  clear hi
  have HE : Hid (QC w5 [(w.heap.size, 0, (Value.slice A S.defs.length k)), (w.heap.size, 1, (Value.string S.query)), (w.heap.size, 2, (Value.string S.mutation)), (gt, 0, (Value.string n)), (gt, 1, (Value.int .i64 l)), (gt, 2, (Value.int .i64 m)), (gv, 0, (Value.int .i64 v.kd)), (gv, 1, (Value.int .i64 v.nn)), (gv, 2, (Value.string v.ss)), (gv, 3, (Value.slice A3 v.ls.len k3)), (gv, 4, (Value.slice A4 v.ms.len k4))] w5) := Lib.hid (by
    obtain ⟨x0, x1, x2⟩ := three_cells J0.out
    obtain ⟨i0, i1, i2⟩ := three_cells J1.out
    obtain ⟨u0, u1, u2, u3, u4⟩ := five_box J2.out
    refine ⟨fun p hp => ?_, Below.refl _ _⟩
    simp only [List.mem_cons, List.not_mem_nil, or_false] at hp
    rcases hp with rfl | rfl | rfl | rfl | rfl | rfl | rfl | rfl | rfl | rfl | rfl <;> assumption)
  have HL : Hid (∀ p, p ∈ [(w.heap.size, 0, (Value.slice A S.defs.length k)), (w.heap.size, 1, (Value.string S.query)), (w.heap.size, 2, (Value.string S.mutation)), (gt, 0, (Value.string n)), (gt, 1, (Value.int .i64 l)), (gt, 2, (Value.int .i64 m)), (gv, 0, (Value.int .i64 v.kd)), (gv, 1, (Value.int .i64 v.nn)), (gv, 2, (Value.string v.ss)), (gv, 3, (Value.slice A3 v.ls.len k3)), (gv, 4, (Value.slice A4 v.ms.len k4))] → p.1 < w5.heap.size) := Lib.hid (fun p hp => by
    have l0 := (Array.getElem?_eq_some_iff.1 J0.out).1
    have l1 := (Array.getElem?_eq_some_iff.1 J1.out).1
    have l2 := (Array.getElem?_eq_some_iff.1 J2.out).1
    simp only [List.mem_cons, List.not_mem_nil, or_false] at hp
    rcases hp with rfl | rfl | rfl | rfl | rfl | rfl | rfl | rfl | rfl | rfl | rfl <;> assumption)
  clear J0 J1 J2
  go_upto_region 3 with fail
  refine wp_region_held_drew (S := (fun w' => w'.cell? ⟨w.heap.size, 0, none⟩ = some (Value.slice A S.defs.length k) ∧ w'.cell? ⟨w.heap.size, 1, none⟩ = some (Value.string S.query) ∧ w'.cell? ⟨w.heap.size, 2, none⟩ = some (Value.string S.mutation) ∧ w'.cell? ⟨gt, 0, none⟩ = some (Value.string n) ∧ w'.cell? ⟨gt, 1, none⟩ = some (Value.int .i64 l) ∧ w'.cell? ⟨gt, 2, none⟩ = some (Value.int .i64 m) ∧ w'.cell? ⟨gv, 0, none⟩ = some (Value.int .i64 v.kd) ∧ w'.cell? ⟨gv, 1, none⟩ = some (Value.int .i64 v.nn) ∧ w'.cell? ⟨gv, 2, none⟩ = some (Value.string v.ss) ∧ w'.cell? ⟨gv, 3, none⟩ = some (Value.slice A3 v.ls.len k3) ∧ w'.cell? ⟨gv, 4, none⟩ = some (Value.slice A4 v.ms.len k4) ∧ QC w5 [(w.heap.size, 0, (Value.slice A S.defs.length k)), (w.heap.size, 1, (Value.string S.query)), (w.heap.size, 2, (Value.string S.mutation)), (gt, 0, (Value.string n)), (gt, 1, (Value.int .i64 l)), (gt, 2, (Value.int .i64 m)), (gv, 0, (Value.int .i64 v.kd)), (gv, 1, (Value.int .i64 v.nn)), (gv, 2, (Value.string v.ss)), (gv, 3, (Value.slice A3 v.ls.len k3)), (gv, 4, (Value.slice A4 v.ms.len k4))] w')) (by kernel_rfl) (q_written (HE.out.next HL.out (Below.drew (Below.refl _ _)))) (fun hHeld => ?_)
  refine wpAnyH_take (i := 0) (oi := _) (v := ?_) rfl (by kernel_rfl) (by kernel_rfl) (by kernel_rfl) (fun _ _ _ h => h) (Or.inl ⟨by rfl, ?_⟩) (by assumption) ?_
  rotate_left
  · (intro w hSw; (try dsimp only at hSw); go_simp; try with_reducible rfl)
  try simp only [Act.put, List.getElem_toArray, List.getElem_cons_zero, List.setIfInBounds_toArray, List.set_cons_zero, List.set_cons_succ]
  refine wpAnyH_take (i := 1) (oi := _) (v := ?_) rfl (by kernel_rfl) (by kernel_rfl) (by kernel_rfl) (fun _ _ _ h => h) (Or.inl ⟨by rfl, ?_⟩) (by assumption) ?_
  rotate_left
  · (intro w hSw; (try dsimp only at hSw); go_simp; try with_reducible rfl)
  try simp only [Act.put, List.getElem_toArray, List.getElem_cons_zero, List.getElem_cons_succ, List.setIfInBounds_toArray, List.set_cons_zero, List.set_cons_succ]
  refine wpAnyH_take (i := 3) (oi := _) (v := ?_) rfl (by kernel_rfl) (by kernel_rfl) (by kernel_rfl) (fun _ _ _ h => h) (Or.inl ⟨by rfl, ?_⟩) (by assumption) ?_
  rotate_left
  · (intro w hSw; (try dsimp only at hSw); go_simp; try with_reducible rfl)
  try simp only [Act.put, List.getElem_toArray, List.getElem_cons_zero, List.getElem_cons_succ, List.setIfInBounds_toArray, List.set_cons_zero, List.set_cons_succ]
  refine wpAnyH_take (i := 5) (oi := _) (v := ?_) rfl (by kernel_rfl) (by kernel_rfl) (by kernel_rfl) (fun _ _ _ h => h) (Or.inl ⟨by rfl, ?_⟩) (by assumption) ?_
  rotate_left
  · (intro w hSw; (try dsimp only at hSw); go_simp; try with_reducible rfl)
  try simp only [Act.put, List.getElem_toArray, List.getElem_cons_zero, List.getElem_cons_succ, List.setIfInBounds_toArray, List.set_cons_zero, List.set_cons_succ]
  refine wpAnyH_take (i := 6) (oi := _) (v := ?_) rfl (by kernel_rfl) (by kernel_rfl) (by kernel_rfl) (fun _ _ _ h => h) (Or.inl ⟨by rfl, ?_⟩) (by assumption) ?_
  rotate_left
  · (intro w hSw; (try dsimp only at hSw); go_simp; try with_reducible rfl)
  try simp only [Act.put, List.getElem_toArray, List.getElem_cons_zero, List.getElem_cons_succ, List.setIfInBounds_toArray, List.set_cons_zero, List.set_cons_succ]
  refine wpAnyH_take (i := 8) (oi := _) (v := ?_) rfl (by kernel_rfl) (by kernel_rfl) (by kernel_rfl) (fun _ _ _ h => h) (Or.inl ⟨by rfl, ?_⟩) (by assumption) ?_
  rotate_left
  · (intro w hSw; (try dsimp only at hSw); go_simp; try with_reducible rfl)
  try simp only [Act.put, List.getElem_toArray, List.getElem_cons_zero, List.getElem_cons_succ, List.setIfInBounds_toArray, List.set_cons_zero, List.set_cons_succ]
  refine wpAnyH_ready (rs := [2]) (by kernel_rfl) (by simp) ?_
  refine AllReadyH.cons (o := _) rfl (fun K hK => ?_) AllReadyH.nil
  go_simp
  refine (BA.out _).mono ?_
  rintro e w' ⟨rfl, hb⟩
  have HBN := Lib.hid hb
  go_wp2_with fail
  refine hK.out _ _ (q_written (QC.next (q_last (by assumption)) HL.out HBN.out)) (fun hHeld => ?_)
  clear hK K
  try simp only [Act.put, List.getElem_toArray, List.getElem_cons_zero, List.getElem_cons_succ, List.setIfInBounds_toArray, List.set_cons_zero, List.set_cons_succ]
  refine wpAnyH_ready (rs := [4]) (by kernel_rfl) (by simp) ?_
  refine AllReadyH.cons (o := _) rfl (fun K hK => ?_) AllReadyH.nil
  go_simp
  refine (R1.out _ (B5.out.trans (Below.mono (by first | exact q_held (by assumption) | exact Below.drew (Below.refl _ _)) B5.out.size))).mono ?_
  rintro e w' ⟨rfl, hb⟩
  have HBN := Lib.hid hb
  go_wp2_with fail
  refine hK.out _ _ (q_written (QC.next (q_last (by assumption)) HL.out HBN.out)) (fun hHeld => ?_)
  clear hK K
  try simp only [Act.put, List.getElem_toArray, List.getElem_cons_zero, List.getElem_cons_succ, List.setIfInBounds_toArray, List.set_cons_zero, List.set_cons_succ]
  refine wpAnyH_ready (rs := [7]) (by kernel_rfl) (by simp) ?_
  refine AllReadyH.cons (o := _) rfl (fun K hK => ?_) AllReadyH.nil
  go_simp
  refine (MU.out _).mono ?_
  rintro e w' ⟨rfl, hb⟩
  have HBN := Lib.hid hb
  go_wp2_with fail
  refine hK.out _ _ (q_written (QC.next (q_last (by assumption)) HL.out HBN.out)) (fun hHeld => ?_)
  clear hK K
  try simp only [Act.put, List.getElem_toArray, List.getElem_cons_zero, List.getElem_cons_succ, List.setIfInBounds_toArray, List.set_cons_zero, List.set_cons_succ]
  refine wpAnyH_ready (rs := [9]) (by kernel_rfl) (by simp) ?_
  refine AllReadyH.cons (o := _) rfl (fun K hK => ?_) AllReadyH.nil
  go_simp
  refine (R2.out _ (B5.out.trans (Below.mono (by first | exact q_held (by assumption) | exact Below.drew (Below.refl _ _)) B5.out.size))).mono ?_
  rintro e w' ⟨rfl, hb⟩
  have HBN := Lib.hid hb
  go_wp2_with fail
  refine hK.out _ _ (q_written (QC.next (q_last (by assumption)) HL.out HBN.out)) (fun hHeld => ?_)
  clear hK K
  try simp only [Act.put, List.getElem_toArray, List.getElem_cons_zero, List.getElem_cons_succ, List.setIfInBounds_toArray, List.set_cons_zero, List.set_cons_succ]
  refine wpAnyH_take (i := 10) (oi := _) (v := ?_) rfl (by kernel_rfl) (by kernel_rfl) (by kernel_rfl) (fun _ _ _ h => h) (Or.inl ⟨by rfl, ?_⟩) (by assumption) ?_
  rotate_left
  · (intro w hSw; (try dsimp only at hSw); go_simp; try with_reducible rfl)
  try simp only [Act.put, List.getElem_toArray, List.getElem_cons_zero, List.getElem_cons_succ, List.setIfInBounds_toArray, List.set_cons_zero, List.set_cons_succ]
  refine wpAnyH_take (i := 11) (oi := _) (v := ?_) rfl (by kernel_rfl) (by kernel_rfl) (by kernel_rfl) (fun _ _ _ h => h) (Or.inl ⟨by rfl, ?_⟩) (by assumption) ?_
  rotate_left
  · (intro w hSw; (try dsimp only at hSw); go_simp; try with_reducible rfl)
  try simp only [Act.put, List.getElem_toArray, List.getElem_cons_zero, List.getElem_cons_succ, List.setIfInBounds_toArray, List.set_cons_zero, List.set_cons_succ]
  refine wpAnyH_done (by kernel_rfl) ?_ _
  have B6 := Lib.hid (B5.out.trans ((q_held hHeld).mono B5.out.size))
  have HQ := Lib.hid (q_last hHeld)
  clear hHeld
  obtain ⟨b0, g0⟩ : ∃ b, (v.kd == 0) = b := ⟨_, rfl⟩
  have hi := HI.out
  have g0n : (v.kd != 0) = !b0 := by rw [← g0]; rfl
  have hk : b0 = false → ra = rb := fun h => hi.2 (by rw [h] at g0; simpa using g0)
  have hk2 := hi.1
  clear hi HI
  generalize hke : v.kd = kd at g0 g0n HQ HL
  obtain ⟨f0, f1, f2, f3, f4, f5, f6, f7, f8, f9, f10, _⟩ := q_written HQ.out
  cases b0 <;> cases ra <;> cases rb
  case false.true.false => exact absurd (hk rfl) (by decide)
  case false.false.true => exact absurd (hk rfl) (by decide)
  case true.false.true => exact absurd (hk2 rfl) (by decide)
  all_goals
    clear hk hk2
    go_wp2_with fail
    refine (R3.out _ B6.out).mono ?_
    rintro e w7 ⟨rfl, hb⟩
    have B7 := Lib.hid (B6.out.trans (hb.mono B6.out.size))
    have HQ7 := Lib.hid (HQ.out.next HL.out hb)
    clear hb f0 f1 f2 f3 f4 f5 f6 f7 f8 f9 f10 HQ
    obtain ⟨f0, f1, f2, f3, f4, f5, f6, f7, f8, f9, f10, _⟩ := q_written HQ7.out
    go_wp2_with fail
    refine (IS.out _).mono ?_
    rintro e w8 ⟨rfl, hb⟩
    have B8 := Lib.hid (B7.out.trans (hb.mono B7.out.size))
    clear hb f0 f1 f2 f3 f4 f5 f6 f7 f8 f9 f10 HQ7
    have eb : ((!ib) == !ib) = true := by cases ib <;> rfl
    go_wp2_with fail
    refine (awake_any w8 (HW.out.below B8.out)).mono ?_
    rintro e wa ⟨rfl, hba⟩
    have Ba := Lib.hid (B8.out.trans (hba.mono B8.out.size))
    clear hba
    go_wp2_with fail
    go_ret
    exact ⟨rfl, Ba.out⟩
end Go.Proofs.YtcfdfgbobnocnaaGreatDoor.LLBare
namespace Go.Proofs.YtcfdfgbobnocnaaGreatDoor.LLBare
open Go.ChangeShapes Go.WideShapes Go.ChangeAt Go.RowKit

set_option maxRecDepth 100000 in
theorem contract (H : Type) (enc : TypeId × Value → H) (W : World) (base : Nat) (args : Array Value) (ds gs : List (DataW H)) (before : List MemPlace)
    (hval : ∀ (j : Nat) t v, Tryz.f5.params[j]? = some t → args[j]? = some v → Value.okWide Tryz.prog W .any base t v)
    (hW : DataW.Whole enc Tryz.prog Tryz.f5.params.toList Rows.literalBareSpec.vars false W args.toList ds gs before) (hL : laidMetH Tryz.prog Rows.literalBareUptoRow.laid W)
    (hz : (DataW.weightsEach Tryz.prog (Tryz.f5.params.toList ++ (Rows.OpenSpec.upto Rows.literalBareSpec).bare.plain.varTypes Tryz.prog) (ds ++ gs)).all (· ≤ reachBytes) = true) (hk : Rows.uptoBulkAll (ds ++ gs) ≤ 1048576) :
    Calls Tryz.prog 5 args W fun e W' => ∃ v, e = .returned v ∧ Rows.literalBareSpec.post enc Tryz.prog Tryz.f5 false true false false W args v W' := by
  have hW' := hW
  obtain ⟨p, q, hA0, hV, rfl, hfz, hnd⟩ := hW
  have hA : DataW.TrodAll enc Tryz.prog W 0 (fun _ => true) true Tryz.f5.params.toList args.toList ds p := hA0
  rw [Tryz.params5] at hA hval
  obtain ⟨a0, vs0, d0, ds0, p0, q0, hargs, rfl, rfl, h0, e0⟩ := trodAll_cons hA
  obtain ⟨a1, vs1, d1, ds1, p1, q1, rfl, rfl, rfl, h1, e1⟩ := trodAll_cons e0
  obtain ⟨a2, vs2, d2, ds2, p2, q2, rfl, rfl, rfl, h2, e2⟩ := trodAll_cons e1
  obtain ⟨rfl, rfl, rfl⟩ := trodAll_nil e2
  obtain rfl : args = #[a0, a1, a2] := by cases args; simp_all
  obtain ⟨rfl, rfl⟩ := trodVars_none hV
  have zz0 : ∀ m ∈ d0.weights Tryz.prog 24, m ≤ reachBytes := fun m hm => by have := List.all_eq_true.1 hz m (DataW.weights_mem_each (j := 0) rfl rfl m hm); simpa using this
  obtain ⟨S0, c00, c01, c02, rfl, hS0, hz0⟩ := open_schemaD (hval 0 24 a0 rfl rfl) h0
  obtain ⟨n1, l1, m1, rfl, hn1⟩ := open_tyA (hval 1 26 a1 rfl rfl) h1
  obtain ⟨t2, _, _, _, _, _, rfl, v2, r2, y2, s2⟩ := open_val (hval 2 30 a2 rfl rfl) h2
  have z2 := Nat.le_trans y2 (Nat.le_trans (bulk_part (by simp)) hk)
  obtain ⟨A3, k3, A4, k4, rfl, rfl, rfl, rfl, rfl, hT2⟩ := vat_ts v2
  clear hA0
  refine (walk W S0 n1 l1 m1 t2 c00 c01 c02 A3 A4 k3 k4 (laid5_of hL) (hz0 zz0).1 (by omega) hn1 hS0 hT2).mono fun e W' ⟨he, hb⟩ => ?_
  subst he
  exact ⟨_, rfl, law_post hW' rfl (by kernel_rfl) (by rw [Tryz.params5]; decide +kernel) rfl rfl rfl hb⟩

theorem laid_met (os : Os) : laidMet Tryz.prog Rows.literalBareUptoRow.laid ((laidWorld os).forCall (fun _ _ => 0) ⟨#[], #[.agg #[.slice none 0 0, .string ⟨#[]⟩, .string ⟨#[]⟩], .agg #[.string ⟨#[]⟩, .int .i64 0, .int .i64 0], .agg #[.int .i64 0, .int .i64 0, .string ⟨#[]⟩, .slice none 0 0, .slice none 0 0]], []⟩).memory :=
  laidWorld_met os _
theorem reads (os : Os) {H : Type} (enc : TypeId × Value → H) : ∃ places, DataW.whole enc Tryz.prog ((laidWorld os).forCall (fun _ _ => 0) ⟨#[], #[.agg #[.slice none 0 0, .string ⟨#[]⟩, .string ⟨#[]⟩], .agg #[.string ⟨#[]⟩, .int .i64 0, .int .i64 0], .agg #[.int .i64 0, .int .i64 0, .string ⟨#[]⟩, .slice none 0 0, .slice none 0 0]], []⟩).memory Tryz.f5.params.toList Rows.literalBareSpec.vars false #[Value.agg #[.slice none 0 0, .string ⟨#[]⟩, .string ⟨#[]⟩], .agg #[.string ⟨#[]⟩, .int .i64 0, .int .i64 0], .agg #[.int .i64 0, .int .i64 0, .string ⟨#[]⟩, .slice none 0 0, .slice none 0 0]].toList 8 = some ([.agg [.nil, .lit (.string []), .lit (.string [])], .agg [.lit (.string []), .lit (.int .i64 0), .lit (.int .i64 0)], .agg [.lit (.int .i64 0), .lit (.int .i64 0), .lit (.string []), .nil, .nil]], [], places) :=
  ⟨[], by kernel_rfl⟩

set_option maxRecDepth 100000 in
theorem lifted (os : Os) (started : os.Started) (H : Type) (enc : TypeId × Value → H) (F : Stop.Interp) :
    ReturnsInHanded {} Tryz.checked os 5 .any ((Rows.OpenSpec.upto Rows.literalBareSpec).preRow enc Tryz.prog Tryz.f5 Rows.literalBareUptoRow.domain false Rows.literalBareUptoRow.laid) (((Rows.OpenSpec.upto Rows.literalBareSpec).at F).post enc Tryz.prog Tryz.f5 false true false false) := by
  obtain ⟨places, hx⟩ := reads os enc
  refine returnsInHanded_of_row (C := Tryz.checked) (s := (Rows.OpenSpec.upto Rows.literalBareSpec)) own started (by kernel_rfl) Tryz.func5
    (witness_row_at (enc := enc) (C := Tryz.checked) false (laidWorld os) #[.agg #[.slice none 0 0, .string ⟨#[]⟩, .string ⟨#[]⟩], .agg #[.string ⟨#[]⟩, .int .i64 0, .int .i64 0], .agg #[.int .i64 0, .int .i64 0, .string ⟨#[]⟩, .slice none 0 0, .slice none 0 0]] (World.laidAll_os _ _ _) (by kernel_rfl) (by kernel_rfl) (by kernel_rfl)
      (OpenSpec.preRow_of_cond 8 hx (by kernel_rfl) (fun k hk => by cases hk; kernel_rfl) (by kernel_rfl) (laid_met os))) ?_
  intro W base args ds gs before hval hW _ hcond hz hL _ _
  have hb : Rows.uptoBulkAll (ds ++ gs) ≤ 1048576 := of_decide_eq_true (hcond _ rfl)
  exact contract H enc W base args ds gs before hval hW hL hz hb

theorem said : Rows.LiteralBareUptoSaid :=
  OpenClaim.holds_of_cond 5 Tryz.f5 rfl rfl rfl rfl rfl rfl rfl ⟨rfl, rfl, rfl, rfl, rfl⟩ rfl rfl rfl rfl rfl (by kernel_rfl) Tryz.func5 (by kernel_rfl)
    (of_decide_eq_true (by kernel_rfl)) (by unfold Func.isWrapper; first | (rw [if_pos (by decide +kernel)]; kernel_rfl) | (rw [if_neg (by decide +kernel)]; exact ⟨rfl, rfl⟩))
    (fun os started H enc _ F => by rw [OpenClaim.pre_eq_preRow]; exact lifted os started H enc F)

theorem plain (f : FuncId) (fn : Func) (hf : Tryz.pinned.checked.prog.funcNamed "seine/seinelaw10.LiteralBare" = some f) (hfn : Tryz.pinned.checked.prog.funcs[f]? = some fn) :
    true = Tryz.pinned.checked.prog.looks [] ∧ ∀ (j : Nat) t, fn.params[j]? = some t → Tryz.pinned.checked.prog.wantsStandIn t = false := by
  obtain rfl : f = 5 := Option.some.inj ((show Tryz.prog.funcNamed "seine/seinelaw10.LiteralBare" = some 5 by kernel_rfl).symm.trans hf) |>.symm
  obtain rfl : fn = Tryz.f5 := (Option.some.inj (Tryz.func5.symm.trans hfn)).symm
  refine ⟨by kernel_rfl, fun j t ht => ?_⟩
  rw [Tryz.params5] at ht
  have hall : ∀ t ∈ [24, 26, 30], Tryz.prog.wantsStandIn t = false := by decide +kernel
  exact hall t (by simpa using Array.mem_of_getElem? ht)

theorem card : Rows.LiteralBareUptoCardSaid :=
  Claim7.holds_tied_plain_at .later [] _ _ _ _ said (fun _ h => by cases h) (by kernel_rfl) (fun _ h => by cases h) literalBareUpto_row_tie rfl ⟨rfl, rfl⟩ (by kernel_rfl) rfl plain (by kernel_rfl)
end Go.Proofs.YtcfdfgbobnocnaaGreatDoor.LLBare
