/- The law LiteralSpots is proved: for every input, where the arguments are together of bulk at most 1048576 the law answers true, and its arguments read behind it as they did. Condition: the listed package variables (seine/letters.shapes, the library's strconv.ErrRange, its table of powers and their like) hold what the program's text lays in them (the card ties that). -/
import Derived.Test.YtcfdfgbobnocnaaGreatDoorLtAwake
import Derived.Test.YtcfdfgbobnocnaaGreatDoorLtLast
namespace Go.Proofs.YtcfdfgbobnocnaaGreatDoor.LLSpots
open Go.RowKit

def QC (wz : World) (cs : List (Nat × Nat × Value)) (W : World) : Prop := (∀ p, p ∈ cs → W.cell? ⟨p.1, p.2.1, none⟩ = some p.2.2) ∧ Below wz.heap.size wz W
theorem QC.next {wz W W' : World} {cs : List (Nat × Nat × Value)} (h : QC wz cs W) (hl : ∀ p, p ∈ cs → p.1 < wz.heap.size) (hb : Below W.heap.size W W') : QC wz cs W' :=
  ⟨fun p hp => (hb.cell (p := ⟨p.1, p.2.1, none⟩) (Nat.lt_of_lt_of_le (hl p hp) h.2.size)).trans (h.1 p hp), h.2.trans (hb.mono h.2.size)⟩
theorem q_written {wz W : World} {a1 b1 a2 b2 a3 b3 a4 b4 a5 b5 a6 b6 a7 b7 a8 b8 a9 b9 a10 b10 a11 b11 : Nat} {v1 v2 v3 v4 v5 v6 v7 v8 v9 v10 v11 : Value} (h : QC wz [(a1, b1, v1), (a2, b2, v2), (a3, b3, v3), (a4, b4, v4), (a5, b5, v5), (a6, b6, v6), (a7, b7, v7), (a8, b8, v8), (a9, b9, v9), (a10, b10, v10), (a11, b11, v11)] W) :
    W.cell? ⟨a1, b1, none⟩ = some v1 ∧ W.cell? ⟨a2, b2, none⟩ = some v2 ∧ W.cell? ⟨a3, b3, none⟩ = some v3 ∧ W.cell? ⟨a4, b4, none⟩ = some v4 ∧ W.cell? ⟨a5, b5, none⟩ = some v5 ∧ W.cell? ⟨a6, b6, none⟩ = some v6 ∧ W.cell? ⟨a7, b7, none⟩ = some v7 ∧ W.cell? ⟨a8, b8, none⟩ = some v8 ∧ W.cell? ⟨a9, b9, none⟩ = some v9 ∧ W.cell? ⟨a10, b10, none⟩ = some v10 ∧ W.cell? ⟨a11, b11, none⟩ = some v11 ∧ QC wz [(a1, b1, v1), (a2, b2, v2), (a3, b3, v3), (a4, b4, v4), (a5, b5, v5), (a6, b6, v6), (a7, b7, v7), (a8, b8, v8), (a9, b9, v9), (a10, b10, v10), (a11, b11, v11)] W :=
  ⟨h.1 (a1, b1, v1) (by simp), h.1 (a2, b2, v2) (by simp), h.1 (a3, b3, v3) (by simp), h.1 (a4, b4, v4) (by simp), h.1 (a5, b5, v5) (by simp), h.1 (a6, b6, v6) (by simp), h.1 (a7, b7, v7) (by simp), h.1 (a8, b8, v8) (by simp), h.1 (a9, b9, v9) (by simp), h.1 (a10, b10, v10) (by simp), h.1 (a11, b11, v11) (by simp), h⟩
theorem q_held {wz W : World} {cs : List (Nat × Nat × Value)} {p1 p2 p3 p4 p5 p6 p7 p8 p9 p10 p11 : Prop} (h : p1 ∧ p2 ∧ p3 ∧ p4 ∧ p5 ∧ p6 ∧ p7 ∧ p8 ∧ p9 ∧ p10 ∧ p11 ∧ QC wz cs W) : Below wz.heap.size wz W := h.2.2.2.2.2.2.2.2.2.2.2.2
theorem q_last {wz W : World} {cs : List (Nat × Nat × Value)} {p1 p2 p3 p4 p5 p6 p7 p8 p9 p10 p11 : Prop} (h : p1 ∧ p2 ∧ p3 ∧ p4 ∧ p5 ∧ p6 ∧ p7 ∧ p8 ∧ p9 ∧ p10 ∧ p11 ∧ QC wz cs W) : QC wz cs W := h.2.2.2.2.2.2.2.2.2.2.2
set_option maxRecDepth 100000 in
set_option maxHeartbeats 8000000 in
theorem walk (w : World) (S : SchT) (n : ByteArray) (l m : Int) (hs : Bool) (v : VT) (c0 c1 c2 : Value) (A3 A4 : Option Addr) (k3 k4 : Nat) (hw : Laid5 w) (hz : SlimS S) (hvz : sizeV v ≤ 1048576) (hn : n.size ≤ 9223372036854775807)
    (hS : TS w (fun b => b < w.heap.size) (encSch S) [c0, c1, c2]) (hV : TS w (fun b => b < w.heap.size) (encV v) [.int .i64 v.kd, .int .i64 v.nn, .string v.ss, .slice A3 v.ls.len k3, .slice A4 v.ms.len k4]) :
    Calls Tryz.prog 3 #[.agg #[c0, c1, c2], .agg #[.string n, .int .i64 l, .int .i64 m], .bool hs, .agg #[.int .i64 v.kd, .int .i64 v.nn, .string v.ss, .slice A3 v.ls.len k3, .slice A4 v.ms.len k4]] w fun e w' => e = .returned (.bool true) ∧ Below w.heap.size w w' := by
  obtain ⟨A, k, e, _⟩ := sch_cells hS
  injection e with e0 e
  injection e with e1 e
  injection e with e2 e
  subst e0 e1 e2
  have HW := Lib.hid hw
  have HZ := Lib.hid hz
  have HVZ := Lib.hid (show sizeV v ≤ 1100000 by omega)
  have HS := Lib.hid hS
  have HV := Lib.hid hV
  have SP := Lib.hid (fun (wx : World) (h : Below w.heap.size w wx) => spots_gen S n l m hs v _ _ _ A3 A4 k3 k4 wx w.heap.size h.size HZ.out HVZ.out hn (TS.low h HS.out) (TS.low h HV.out))
  have RR := Lib.hid (fun (hv : sizeV v ≤ 9000) (wx : World) (h : Below w.heap.size w wx) => rRight_any S n l m v hv _ _ _ A3 A4 k3 k4 wx w.heap.size hn h.size (TS.low h HS.out) (TS.low h HV.out))
  have RS := Lib.hid (fun (hG : G S.defs ⟨n, l, m, hs, v⟩) (wx : World) (h : Below w.heap.size w wx) => rspots_any S _ n l m hs v _ _ _ A3 A4 k3 k4 wx w.heap.size (Nat.le_refl _) (Nat.le_trans (sz_size v) HVZ.out) hn hG h.size (TS.low h HS.out) (TS.low h HV.out))
  have hspp : spP S.defs ⟨n, l, m, hs, v⟩ = spotsOf (allP S.defs ⟨n, l, m, hs, v⟩) := rfl
  rw [hspp] at RS
  clear hspp
  have LG := Lib.hid (fun (wx : World) (h : Below w.heap.size w wx) => lightz_any S v hvz _ _ _ A3 A4 k3 k4 wx (TS.keep (fun b hx => ⟨Nat.lt_of_lt_of_le hx h.size, h.block b hx⟩) _ _ hS) (TS.keep (fun b hx => ⟨Nat.lt_of_lt_of_le hx h.size, h.block b hx⟩) _ _ hV))
  have GH := Lib.hid (fun h => G_has (D := S.defs) (n := n) (l := l) (m := m) (hs := false) (hs' := hs) (v := v) h)
  have X0 := Lib.hid (B3.start w #[.slice A S.defs.length k, .string S.query, .string S.mutation] #[.string n, .int .i64 l, .int .i64 m] #[.int .i64 v.kd, .int .i64 v.nn, .string v.ss, .slice A3 v.ls.len k3, .slice A4 v.ms.len k4] 24 26 30)
  clear hw hz hvz hS hV e
  generalize G S.defs ⟨n, l, m, false, v⟩ = GP at RR GH
  generalize G S.defs ⟨n, l, m, hs, v⟩ = GQ at RS GH
  generalize spotsOf (allP S.defs ⟨n, l, m, hs, v⟩) = XS at SP RS
  go_enter Tryz.func3, Tryz.ntmps3
  go_upto_region 1 with fail
  generalize ((w.alloc (.cells #[.slice A S.defs.length k, .string S.query, .string S.mutation] 24)).alloc (.cells #[.string n, .int .i64 l, .int .i64 m] 26)).alloc (.cells #[.int .i64 v.kd, .int .i64 v.nn, .string v.ss, .slice A3 v.ls.len k3, .slice A4 v.ms.len k4] 30) = w1 at X0 ⊢
  generalize w.heap.size + 1 + 1 = gv at X0 ⊢
  generalize w.heap.size + 1 = gt at X0 ⊢
  obtain ⟨y0, y1, y2⟩ := three_cells X0.out.b0
  obtain ⟨z0, z1, z2, z3, z4⟩ := five_box X0.out.b2
  go_wp2_with fail
  refine (LG.out _ X0.out.low).mono ?_
  rintro e w4 ⟨lt, rfl, hlt, hb⟩
  have HLT := Lib.hid hlt
  have X4 := Lib.hid (X0.out.next hb)
  clear hb y0 y1 y2 z0 z1 z2 z3 z4 LG X0 hlt
  cases lt
  · clear SP RR RS
    go_wp2_with fail
    refine (awake_any w4 (HW.out.below X4.out.low)).mono ?_
    rintro e wa ⟨rfl, hba⟩
    have Ba := Lib.hid (X4.out.low.trans (hba.mono X4.out.low.size))
    clear hba
    go_wp2_with fail
    go_ret
    exact ⟨rfl, Ba.out⟩
  obtain ⟨y0, y1, y2⟩ := three_cells X4.out.b0
  obtain ⟨x0, x1, x2⟩ := three_cells X4.out.b1
  obtain ⟨z0, z1, z2, z3, z4⟩ := five_box X4.out.b2
  have RR := Lib.hid (RR.out (by have := HLT.out rfl; omega))
  clear HLT
  go_wp2_with fail
  refine (RR.out _ X4.out.low).mono ?_
  rintro e w5 ⟨r, rfl, hG, hb⟩
  have HG := Lib.hid hG
  have X5 := Lib.hid (X4.out.next hb)
  have B5 := Lib.hid X5.out.low
  clear hb y0 y1 y2 x0 x1 x2 z0 z1 z2 z3 z4 RR X4 hG
  cases r
  · clear SP RS
    go_wp2_with fail
    refine (awake_any w5 (HW.out.below X5.out.low)).mono ?_
    rintro e wa ⟨rfl, hba⟩
    have Ba := Lib.hid (X5.out.low.trans (hba.mono X5.out.low.size))
    clear hba
    go_wp2_with fail
    go_ret
    exact ⟨rfl, Ba.out⟩
  have RS := Lib.hid (RS.out (GH.out (HG.out rfl)))
  clear GH HG
  have HE : Hid (QC w5 [(w.heap.size, 0, (Value.slice A S.defs.length k)), (w.heap.size, 1, (Value.string S.query)), (w.heap.size, 2, (Value.string S.mutation)), (gt, 0, (Value.string n)), (gt, 1, (Value.int .i64 l)), (gt, 2, (Value.int .i64 m)), (gv, 0, (Value.int .i64 v.kd)), (gv, 1, (Value.int .i64 v.nn)), (gv, 2, (Value.string v.ss)), (gv, 3, (Value.slice A3 v.ls.len k3)), (gv, 4, (Value.slice A4 v.ms.len k4))] w5) := Lib.hid (by
    obtain ⟨x0, x1, x2⟩ := three_cells X5.out.b0
    obtain ⟨i0, i1, i2⟩ := three_cells X5.out.b1
    obtain ⟨u0, u1, u2, u3, u4⟩ := five_box X5.out.b2
    refine ⟨fun p hp => ?_, Below.refl _ _⟩
    simp only [List.mem_cons, List.not_mem_nil, or_false] at hp
    rcases hp with rfl | rfl | rfl | rfl | rfl | rfl | rfl | rfl | rfl | rfl | rfl <;> assumption)
  have HL : Hid (∀ p, p ∈ [(w.heap.size, 0, (Value.slice A S.defs.length k)), (w.heap.size, 1, (Value.string S.query)), (w.heap.size, 2, (Value.string S.mutation)), (gt, 0, (Value.string n)), (gt, 1, (Value.int .i64 l)), (gt, 2, (Value.int .i64 m)), (gv, 0, (Value.int .i64 v.kd)), (gv, 1, (Value.int .i64 v.nn)), (gv, 2, (Value.string v.ss)), (gv, 3, (Value.slice A3 v.ls.len k3)), (gv, 4, (Value.slice A4 v.ms.len k4))] → p.1 < w5.heap.size) := Lib.hid (fun p hp => by
    have l0 := (Array.getElem?_eq_some_iff.1 X5.out.b0).1
    have l1 := (Array.getElem?_eq_some_iff.1 X5.out.b1).1
    have l2 := (Array.getElem?_eq_some_iff.1 X5.out.b2).1
    simp only [List.mem_cons, List.not_mem_nil, or_false] at hp
    rcases hp with rfl | rfl | rfl | rfl | rfl | rfl | rfl | rfl | rfl | rfl | rfl <;> assumption)
  go_upto_region 3 with fail
  refine wp_region_held_drew (S := (fun w' => w'.cell? ⟨w.heap.size, 0, none⟩ = some (Value.slice A S.defs.length k) ∧ w'.cell? ⟨w.heap.size, 1, none⟩ = some (Value.string S.query) ∧ w'.cell? ⟨w.heap.size, 2, none⟩ = some (Value.string S.mutation) ∧ w'.cell? ⟨gt, 0, none⟩ = some (Value.string n) ∧ w'.cell? ⟨gt, 1, none⟩ = some (Value.int .i64 l) ∧ w'.cell? ⟨gt, 2, none⟩ = some (Value.int .i64 m) ∧ w'.cell? ⟨gv, 0, none⟩ = some (Value.int .i64 v.kd) ∧ w'.cell? ⟨gv, 1, none⟩ = some (Value.int .i64 v.nn) ∧ w'.cell? ⟨gv, 2, none⟩ = some (Value.string v.ss) ∧ w'.cell? ⟨gv, 3, none⟩ = some (Value.slice A3 v.ls.len k3) ∧ w'.cell? ⟨gv, 4, none⟩ = some (Value.slice A4 v.ms.len k4) ∧ QC w5 [(w.heap.size, 0, (Value.slice A S.defs.length k)), (w.heap.size, 1, (Value.string S.query)), (w.heap.size, 2, (Value.string S.mutation)), (gt, 0, (Value.string n)), (gt, 1, (Value.int .i64 l)), (gt, 2, (Value.int .i64 m)), (gv, 0, (Value.int .i64 v.kd)), (gv, 1, (Value.int .i64 v.nn)), (gv, 2, (Value.string v.ss)), (gv, 3, (Value.slice A3 v.ls.len k3)), (gv, 4, (Value.slice A4 v.ms.len k4))] w')) (by kernel_rfl) (q_written (HE.out.next HL.out (Below.drew (Below.refl _ _)))) (fun hHeld => ?_)
  refine wpAnyH_take (i := 0) (oi := _) (v := ?_) rfl (by kernel_rfl) (by kernel_rfl) (by kernel_rfl) (fun _ _ _ h => h) (Or.inl ⟨by rfl, ?_⟩) (by assumption) ?_
  rotate_left
  · (intro w hSw; (try dsimp only at hSw); go_simp; try with_reducible rfl)
  try simp only [Act.put, List.getElem_toArray, List.getElem_cons_zero, List.setIfInBounds_toArray, List.set_cons_zero, List.set_cons_succ]
  refine wpAnyH_take (i := 1) (oi := _) (v := ?_) rfl (by kernel_rfl) (by kernel_rfl) (by kernel_rfl) (fun _ _ _ h => h) (Or.inl ⟨by rfl, ?_⟩) (by assumption) ?_
  rotate_left
  · (intro w hSw; (try dsimp only at hSw); go_simp; try with_reducible rfl)
  try simp only [Act.put, List.getElem_toArray, List.getElem_cons_zero, List.getElem_cons_succ, List.setIfInBounds_toArray, List.set_cons_zero, List.set_cons_succ]
  refine wpAnyH_take (i := 2) (oi := _) (v := ?_) rfl (by kernel_rfl) (by kernel_rfl) (by kernel_rfl) (fun _ _ _ h => h) (Or.inl ⟨by rfl, ?_⟩) (by assumption) ?_
  rotate_left
  · (intro w hSw; (try dsimp only at hSw); go_simp; try with_reducible rfl)
  try simp only [Act.put, List.getElem_toArray, List.getElem_cons_zero, List.getElem_cons_succ, List.setIfInBounds_toArray, List.set_cons_zero, List.set_cons_succ]
  refine wpAnyH_take (i := 3) (oi := _) (v := ?_) rfl (by kernel_rfl) (by kernel_rfl) (by kernel_rfl) (fun _ _ _ h => h) (Or.inl ⟨by rfl, ?_⟩) (by assumption) ?_
  rotate_left
  · (intro w hSw; (try dsimp only at hSw); go_simp; try with_reducible rfl)
  try simp only [Act.put, List.getElem_toArray, List.getElem_cons_zero, List.getElem_cons_succ, List.setIfInBounds_toArray, List.set_cons_zero, List.set_cons_succ]
  refine wpAnyH_take (i := 5) (oi := _) (v := ?_) rfl (by kernel_rfl) (by kernel_rfl) (by kernel_rfl) (fun _ _ _ h => h) (Or.inl ⟨by rfl, ?_⟩) (by assumption) ?_
  rotate_left
  · (intro w hSw; (try dsimp only at hSw); go_simp; try with_reducible rfl)
  try simp only [Act.put, List.getElem_toArray, List.getElem_cons_zero, List.getElem_cons_succ, List.setIfInBounds_toArray, List.set_cons_zero, List.set_cons_succ]
  refine wpAnyH_take (i := 6) (oi := _) (v := ?_) rfl (by kernel_rfl) (by kernel_rfl) (by kernel_rfl) (fun _ _ _ h => h) (Or.inl ⟨by rfl, ?_⟩) (by assumption) ?_
  rotate_left
  · (intro w hSw; (try dsimp only at hSw); go_simp; try with_reducible rfl)
  try simp only [Act.put, List.getElem_toArray, List.getElem_cons_zero, List.getElem_cons_succ, List.setIfInBounds_toArray, List.set_cons_zero, List.set_cons_succ]
  refine wpAnyH_take (i := 7) (oi := _) (v := ?_) rfl (by kernel_rfl) (by kernel_rfl) (by kernel_rfl) (fun _ _ _ h => h) (Or.inl ⟨by rfl, ?_⟩) (by assumption) ?_
  rotate_left
  · (intro w hSw; (try dsimp only at hSw); go_simp; try with_reducible rfl)
  try simp only [Act.put, List.getElem_toArray, List.getElem_cons_zero, List.getElem_cons_succ, List.setIfInBounds_toArray, List.set_cons_zero, List.set_cons_succ]
  refine wpAnyH_take (i := 8) (oi := _) (v := ?_) rfl (by kernel_rfl) (by kernel_rfl) (by kernel_rfl) (fun _ _ _ h => h) (Or.inl ⟨by rfl, ?_⟩) (by assumption) ?_
  rotate_left
  · (intro w hSw; (try dsimp only at hSw); go_simp; try with_reducible rfl)
  try simp only [Act.put, List.getElem_toArray, List.getElem_cons_zero, List.getElem_cons_succ, List.setIfInBounds_toArray, List.set_cons_zero, List.set_cons_succ]
  refine wpAnyH_ready (rs := [4]) (by kernel_rfl) (by simp) ?_
  refine AllReadyH.cons (o := _) rfl (fun K hK => ?_) AllReadyH.nil
  go_simp
  refine (SP.out _ (B5.out.trans (Below.mono (by first | exact q_held (by assumption) | exact Below.drew (Below.refl _ _)) B5.out.size))).mono ?_
  rintro e wc ⟨V1, rfl, ⟨b1, hbl1, hrow1⟩, hb⟩
  obtain ⟨A1, j1, rfl, hln, hc1⟩ := spot_row_at hrow1
  have HC1 := Lib.hid hc1
  have HLN := Lib.hid hln
  clear hbl1 hrow1 hc1 hln
  have HBN := Lib.hid hb
  go_wp2_with fail
  refine hK.out _ _ (q_written (QC.next (q_last (by assumption)) HL.out HBN.out)) (fun hHeld => ?_)
  clear hK K
  try simp only [Act.put, List.getElem_toArray, List.getElem_cons_zero, List.getElem_cons_succ, List.setIfInBounds_toArray, List.set_cons_zero, List.set_cons_succ]
  refine wpAnyH_ready (rs := [9]) (by kernel_rfl) (by simp) ?_
  refine AllReadyH.cons (o := _) rfl (fun K hK => ?_) AllReadyH.nil
  go_simp
  refine (RS.out _ (B5.out.trans (Below.mono (by first | exact q_held (by assumption) | exact Below.drew (Below.refl _ _)) B5.out.size))).mono ?_
  rintro e wd ⟨V2, rfl, ho2, hb⟩
  obtain ⟨A2, j2, rfl, _, hc2⟩ := spot_row_at ho2.2
  have HC2 := Lib.hid hc2
  have HC1 := Lib.hid (fun (q : Nat) (x : PlT) (hq : XS[q]? = some x) => by
    obtain ⟨g, o, e1, e2, e3⟩ := HC1.out q x hq
    exact (⟨g, o, e1, Nat.lt_of_lt_of_le e2 hb.size, fun i u hu => (hb.cell (p := ⟨g, o + q * 5 + i, none⟩) e2).trans (e3 i u hu)⟩ : ∃ g o, A1 = some ⟨g, o, none⟩ ∧ g < wd.heap.size ∧ ∀ (i : Nat) u, (spotC x)[i]? = some u → wd.cell? ⟨g, o + q * 5 + i, none⟩ = some u))
  clear ho2 hc2
  have HBN := Lib.hid hb
  go_wp2_with fail
  refine hK.out _ _ (q_written (QC.next (q_last (by assumption)) HL.out HBN.out)) (fun hHeld => ?_)
  clear hK K
  try simp only [Act.put, List.getElem_toArray, List.getElem_cons_zero, List.getElem_cons_succ, List.setIfInBounds_toArray, List.set_cons_zero, List.set_cons_succ]
  refine wpAnyH_ready (rs := [10]) (by kernel_rfl) (by simp) ?_
  refine AllReadyH.cons (o := _) rfl (fun K hK => ?_) AllReadyH.nil
  go_simp
  refine (samespots_any XS A1 A2 j1 j2 _ HLN.out HC1.out HC2.out).mono ?_
  rintro e w' ⟨rfl, hb⟩
  have HBN := Lib.hid hb
  go_wp2_with fail
  refine hK.out _ _ (q_written (QC.next (q_last (by assumption)) HL.out HBN.out)) (fun hHeld => ?_)
  clear hK K
  try simp only [Act.put, List.getElem_toArray, List.getElem_cons_zero, List.getElem_cons_succ, List.setIfInBounds_toArray, List.set_cons_zero, List.set_cons_succ]
  refine wpAnyH_take (i := 11) (oi := _) (v := ?_) rfl (by kernel_rfl) (by kernel_rfl) (by kernel_rfl) (fun _ _ _ h => h) (Or.inl ⟨by rfl, ?_⟩) (by assumption) ?_
  rotate_left
  · (intro w hSw; (try dsimp only at hSw); go_simp; try with_reducible rfl)
  try simp only [Act.put, List.getElem_toArray, List.getElem_cons_zero, List.getElem_cons_succ, List.setIfInBounds_toArray, List.set_cons_zero, List.set_cons_succ]
  refine wpAnyH_ready (rs := [12]) (by kernel_rfl) (by simp) ?_
  refine AllReadyH.cons (o := _) rfl (fun K hK => ?_) AllReadyH.nil
  go_simp
  refine (awake_any _ (HW.out.below (B5.out.trans (Below.mono (by first | exact q_held (by assumption) | exact Below.drew (Below.refl _ _)) B5.out.size)))).mono ?_
  rintro e w' ⟨rfl, hb⟩
  have HBN := Lib.hid hb
  go_wp2_with fail
  refine hK.out _ _ (q_written (QC.next (q_last (by assumption)) HL.out HBN.out)) (fun hHeld => ?_)
  clear hK K
  try simp only [Act.put, List.getElem_toArray, List.getElem_cons_zero, List.getElem_cons_succ, List.setIfInBounds_toArray, List.set_cons_zero, List.set_cons_succ]
  refine wpAnyH_take (i := 13) (oi := _) (v := ?_) rfl (by kernel_rfl) (by kernel_rfl) (by kernel_rfl) (fun _ _ _ h => h) (Or.inl ⟨by rfl, ?_⟩) (by assumption) ?_
  rotate_left
  · (intro w hSw; (try dsimp only at hSw); go_simp; try with_reducible rfl)
  try simp only [Act.put, List.getElem_toArray, List.getElem_cons_zero, List.getElem_cons_succ, List.setIfInBounds_toArray, List.set_cons_zero, List.set_cons_succ]
  refine wpAnyH_take (i := 14) (oi := _) (v := ?_) rfl (by kernel_rfl) (by kernel_rfl) (by kernel_rfl) (fun _ _ _ h => h) (Or.inl ⟨by rfl, ?_⟩) (by assumption) ?_
  rotate_left
  · (intro w hSw; (try dsimp only at hSw); go_simp; try with_reducible rfl)
  try simp only [Act.put, List.getElem_toArray, List.getElem_cons_zero, List.getElem_cons_succ, List.setIfInBounds_toArray, List.set_cons_zero, List.set_cons_succ]
  refine wpAnyH_done (by kernel_rfl) ?_ _
  have B9 := Lib.hid (B5.out.trans ((q_held hHeld).mono B5.out.size))
  clear hHeld
  go_wp2_with fail
  go_ret
  exact ⟨rfl, B9.out⟩
end Go.Proofs.YtcfdfgbobnocnaaGreatDoor.LLSpots
namespace Go.Proofs.YtcfdfgbobnocnaaGreatDoor.LLSpots
open Go.ChangeShapes Go.WideShapes Go.ChangeAt Go.RowKit

set_option maxRecDepth 100000 in
theorem contract (H : Type) (enc : TypeId × Value → H) (W : World) (base : Nat) (args : Array Value) (ds gs : List (DataW H)) (before : List MemPlace)
    (hval : ∀ (j : Nat) t v, Tryz.f3.params[j]? = some t → args[j]? = some v → Value.okWide Tryz.prog W .any base t v)
    (hW : DataW.Whole enc Tryz.prog Tryz.f3.params.toList Rows.literalSpotsSpec.vars false W args.toList ds gs before) (hL : laidMetH Tryz.prog Rows.literalSpotsUptoRow.laid W)
    (hz : (DataW.weightsEach Tryz.prog (Tryz.f3.params.toList ++ (Rows.OpenSpec.upto Rows.literalSpotsSpec).bare.plain.varTypes Tryz.prog) (ds ++ gs)).all (· ≤ reachBytes) = true) (hk : Rows.uptoBulkAll (ds ++ gs) ≤ 1048576) :
    Calls Tryz.prog 3 args W fun e W' => ∃ v, e = .returned v ∧ Rows.literalSpotsSpec.post enc Tryz.prog Tryz.f3 false true false false W args v W' := by
  have hW' := hW
  obtain ⟨p, q, hA0, hV, rfl, hfz, hnd⟩ := hW
  have hA : DataW.TrodAll enc Tryz.prog W 0 (fun _ => true) true Tryz.f3.params.toList args.toList ds p := hA0
  rw [Tryz.params3] at hA hval
  obtain ⟨a0, vs0, d0, ds0, p0, q0, hargs, rfl, rfl, h0, e0⟩ := trodAll_cons hA
  obtain ⟨a1, vs1, d1, ds1, p1, q1, rfl, rfl, rfl, h1, e1⟩ := trodAll_cons e0
  obtain ⟨a2, vs2, d2, ds2, p2, q2, rfl, rfl, rfl, h2, e2⟩ := trodAll_cons e1
  obtain ⟨a3, vs3, d3, ds3, p3, q3, rfl, rfl, rfl, h3, e3⟩ := trodAll_cons e2
  obtain ⟨rfl, rfl, rfl⟩ := trodAll_nil e3
  obtain rfl : args = #[a0, a1, a2, a3] := by cases args; simp_all
  obtain ⟨rfl, rfl⟩ := trodVars_none hV
  have zz0 : ∀ m ∈ d0.weights Tryz.prog 24, m ≤ reachBytes := fun m hm => by have := List.all_eq_true.1 hz m (DataW.weights_mem_each (j := 0) rfl rfl m hm); simpa using this
  obtain ⟨S0, c00, c01, c02, rfl, hS0, hz0⟩ := open_schemaD (hval 0 24 a0 rfl rfl) h0
  obtain ⟨n1, l1, m1, rfl, hn1⟩ := open_tyA (hval 1 26 a1 rfl rfl) h1
  obtain ⟨b2, rfl⟩ := okWide_bool Tryz.underlying4 (hval 2 4 a2 rfl rfl)
  obtain ⟨t2, _, _, _, _, _, rfl, v2, r2, y2, s2⟩ := open_val (hval 3 30 a3 rfl rfl) h3
  have z2 := Nat.le_trans y2 (Nat.le_trans (bulk_part (by simp)) hk)
  obtain ⟨A3, k3, A4, k4, rfl, rfl, rfl, rfl, rfl, hT2⟩ := vat_ts v2
  clear hA0
  refine (walk W S0 n1 l1 m1 b2 t2 c00 c01 c02 A3 A4 k3 k4 (laid5_of hL) (hz0 zz0).1 (by omega) hn1 hS0 hT2).mono fun e W' ⟨he, hb⟩ => ?_
  subst he
  exact ⟨_, rfl, law_post hW' rfl (by kernel_rfl) (by rw [Tryz.params3]; decide +kernel) rfl rfl rfl hb⟩

theorem laid_met (os : Os) : laidMet Tryz.prog Rows.literalSpotsUptoRow.laid ((laidWorld os).forCall (fun _ _ => 0) ⟨#[], #[.agg #[.slice none 0 0, .string ⟨#[]⟩, .string ⟨#[]⟩], .agg #[.string ⟨#[]⟩, .int .i64 0, .int .i64 0], .bool false, .agg #[.int .i64 0, .int .i64 0, .string ⟨#[]⟩, .slice none 0 0, .slice none 0 0]], []⟩).memory :=
  laidWorld_met os _
theorem reads (os : Os) {H : Type} (enc : TypeId × Value → H) : ∃ places, DataW.whole enc Tryz.prog ((laidWorld os).forCall (fun _ _ => 0) ⟨#[], #[.agg #[.slice none 0 0, .string ⟨#[]⟩, .string ⟨#[]⟩], .agg #[.string ⟨#[]⟩, .int .i64 0, .int .i64 0], .bool false, .agg #[.int .i64 0, .int .i64 0, .string ⟨#[]⟩, .slice none 0 0, .slice none 0 0]], []⟩).memory Tryz.f3.params.toList Rows.literalSpotsSpec.vars false #[Value.agg #[.slice none 0 0, .string ⟨#[]⟩, .string ⟨#[]⟩], .agg #[.string ⟨#[]⟩, .int .i64 0, .int .i64 0], .bool false, .agg #[.int .i64 0, .int .i64 0, .string ⟨#[]⟩, .slice none 0 0, .slice none 0 0]].toList 8 = some ([.agg [.nil, .lit (.string []), .lit (.string [])], .agg [.lit (.string []), .lit (.int .i64 0), .lit (.int .i64 0)], .lit (.bool false), .agg [.lit (.int .i64 0), .lit (.int .i64 0), .lit (.string []), .nil, .nil]], [], places) :=
  ⟨[], by kernel_rfl⟩

set_option maxRecDepth 100000 in
theorem lifted (os : Os) (started : os.Started) (H : Type) (enc : TypeId × Value → H) (F : Stop.Interp) :
    ReturnsInHanded {} Tryz.checked os 3 .any ((Rows.OpenSpec.upto Rows.literalSpotsSpec).preRow enc Tryz.prog Tryz.f3 Rows.literalSpotsUptoRow.domain false Rows.literalSpotsUptoRow.laid) (((Rows.OpenSpec.upto Rows.literalSpotsSpec).at F).post enc Tryz.prog Tryz.f3 false true false false) := by
  obtain ⟨places, hx⟩ := reads os enc
  refine returnsInHanded_of_row (C := Tryz.checked) (s := (Rows.OpenSpec.upto Rows.literalSpotsSpec)) own started (by kernel_rfl) Tryz.func3
    (witness_row_at (enc := enc) (C := Tryz.checked) false (laidWorld os) #[.agg #[.slice none 0 0, .string ⟨#[]⟩, .string ⟨#[]⟩], .agg #[.string ⟨#[]⟩, .int .i64 0, .int .i64 0], .bool false, .agg #[.int .i64 0, .int .i64 0, .string ⟨#[]⟩, .slice none 0 0, .slice none 0 0]] (World.laidAll_os _ _ _) (by kernel_rfl) (by kernel_rfl) (by kernel_rfl)
      (OpenSpec.preRow_of_cond 8 hx (by kernel_rfl) (fun k hk => by cases hk; kernel_rfl) (by kernel_rfl) (laid_met os))) ?_
  intro W base args ds gs before hval hW _ hcond hz hL _ _
  have hb : Rows.uptoBulkAll (ds ++ gs) ≤ 1048576 := of_decide_eq_true (hcond _ rfl)
  exact contract H enc W base args ds gs before hval hW hL hz hb

theorem said : Rows.LiteralSpotsUptoSaid :=
  OpenClaim.holds_of_cond 3 Tryz.f3 rfl rfl rfl rfl rfl rfl rfl ⟨rfl, rfl, rfl, rfl, rfl⟩ rfl rfl rfl rfl rfl (by kernel_rfl) Tryz.func3 (by kernel_rfl)
    (of_decide_eq_true (by kernel_rfl)) (by unfold Func.isWrapper; first | (rw [if_pos (by decide +kernel)]; kernel_rfl) | (rw [if_neg (by decide +kernel)]; exact ⟨rfl, rfl⟩))
    (fun os started H enc _ F => by rw [OpenClaim.pre_eq_preRow]; exact lifted os started H enc F)

theorem plain (f : FuncId) (fn : Func) (hf : Tryz.pinned.checked.prog.funcNamed "seine/seinelaw10.LiteralSpots" = some f) (hfn : Tryz.pinned.checked.prog.funcs[f]? = some fn) :
    true = Tryz.pinned.checked.prog.looks [] ∧ ∀ (j : Nat) t, fn.params[j]? = some t → Tryz.pinned.checked.prog.wantsStandIn t = false := by
  obtain rfl : f = 3 := Option.some.inj ((show Tryz.prog.funcNamed "seine/seinelaw10.LiteralSpots" = some 3 by kernel_rfl).symm.trans hf) |>.symm
  obtain rfl : fn = Tryz.f3 := (Option.some.inj (Tryz.func3.symm.trans hfn)).symm
  refine ⟨by kernel_rfl, fun j t ht => ?_⟩
  rw [Tryz.params3] at ht
  have hall : ∀ t ∈ [24, 26, 4, 30], Tryz.prog.wantsStandIn t = false := by decide +kernel
  exact hall t (by simpa using Array.mem_of_getElem? ht)

theorem card : Rows.LiteralSpotsUptoCardSaid :=
  Claim7.holds_tied_plain_at .later [] _ _ _ _ said (fun _ h => by cases h) (by kernel_rfl) (fun _ h => by cases h) literalSpotsUpto_row_tie rfl ⟨rfl, rfl⟩ (by kernel_rfl) rfl plain (by kernel_rfl)
end Go.Proofs.YtcfdfgbobnocnaaGreatDoor.LLSpots
