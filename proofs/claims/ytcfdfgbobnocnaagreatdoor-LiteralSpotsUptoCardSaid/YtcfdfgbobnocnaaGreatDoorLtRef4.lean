/- The document's Spots. (gen_ref4.py wrote it.) -/
import Derived.Test.YtcfdfgbobnocnaaGreatDoorLtSp
namespace Go.Proofs.YtcfdfgbobnocnaaGreatDoor
open Go.RowKit

def QL (lo : Nat) (wz : World) (cs : List (Nat × Nat × Value)) (W : World) : Prop := (∀ p, p ∈ cs → W.cell? ⟨p.1, p.2.1, none⟩ = some p.2.2) ∧ Below lo wz W
theorem QL.next {lo : Nat} {wz W W' : World} {cs : List (Nat × Nat × Value)} (h : QL lo wz cs W) (hl : ∀ p, p ∈ cs → p.1 < lo) (hb : Below lo W W') : QL lo wz cs W' :=
  ⟨fun p hp => (hb.cell (p := ⟨p.1, p.2.1, none⟩) (hl p hp)).trans (h.1 p hp), h.2.trans hb⟩
theorem qa_written {lo : Nat} {wz W : World} {a1 b1 a2 b2 a3 b3 a4 b4 a5 b5 a6 b6 a7 b7 a8 b8 a9 b9 a10 b10 a11 b11 a12 b12 : Nat} {v1 v2 v3 v4 v5 v6 v7 v8 v9 v10 v11 v12 : Value} (h : QL lo wz [(a1, b1, v1), (a2, b2, v2), (a3, b3, v3), (a4, b4, v4), (a5, b5, v5), (a6, b6, v6), (a7, b7, v7), (a8, b8, v8), (a9, b9, v9), (a10, b10, v10), (a11, b11, v11), (a12, b12, v12)] W) :
    W.cell? ⟨a1, b1, none⟩ = some v1 ∧ W.cell? ⟨a2, b2, none⟩ = some v2 ∧ W.cell? ⟨a3, b3, none⟩ = some v3 ∧ W.cell? ⟨a4, b4, none⟩ = some v4 ∧ W.cell? ⟨a5, b5, none⟩ = some v5 ∧ W.cell? ⟨a6, b6, none⟩ = some v6 ∧ W.cell? ⟨a7, b7, none⟩ = some v7 ∧ W.cell? ⟨a8, b8, none⟩ = some v8 ∧ W.cell? ⟨a9, b9, none⟩ = some v9 ∧ W.cell? ⟨a10, b10, none⟩ = some v10 ∧ W.cell? ⟨a11, b11, none⟩ = some v11 ∧ W.cell? ⟨a12, b12, none⟩ = some v12 ∧ QL lo wz [(a1, b1, v1), (a2, b2, v2), (a3, b3, v3), (a4, b4, v4), (a5, b5, v5), (a6, b6, v6), (a7, b7, v7), (a8, b8, v8), (a9, b9, v9), (a10, b10, v10), (a11, b11, v11), (a12, b12, v12)] W :=
  ⟨h.1 (a1, b1, v1) (by simp), h.1 (a2, b2, v2) (by simp), h.1 (a3, b3, v3) (by simp), h.1 (a4, b4, v4) (by simp), h.1 (a5, b5, v5) (by simp), h.1 (a6, b6, v6) (by simp), h.1 (a7, b7, v7) (by simp), h.1 (a8, b8, v8) (by simp), h.1 (a9, b9, v9) (by simp), h.1 (a10, b10, v10) (by simp), h.1 (a11, b11, v11) (by simp), h.1 (a12, b12, v12) (by simp), h⟩
theorem qa_held {lo : Nat} {wz W : World} {cs : List (Nat × Nat × Value)} {p1 p2 p3 p4 p5 p6 p7 p8 p9 p10 p11 p12 : Prop} (h : p1 ∧ p2 ∧ p3 ∧ p4 ∧ p5 ∧ p6 ∧ p7 ∧ p8 ∧ p9 ∧ p10 ∧ p11 ∧ p12 ∧ QL lo wz cs W) : Below lo wz W := h.2.2.2.2.2.2.2.2.2.2.2.2.2
theorem qa_last {lo : Nat} {wz W : World} {cs : List (Nat × Nat × Value)} {p1 p2 p3 p4 p5 p6 p7 p8 p9 p10 p11 p12 : Prop} (h : p1 ∧ p2 ∧ p3 ∧ p4 ∧ p5 ∧ p6 ∧ p7 ∧ p8 ∧ p9 ∧ p10 ∧ p11 ∧ p12 ∧ QL lo wz cs W) : QL lo wz cs W := h.2.2.2.2.2.2.2.2.2.2.2.2
theorem qp_written {lo : Nat} {wz W : World} {a1 b1 a2 b2 a3 b3 : Nat} {v1 v2 v3 : Value} (h : QL lo wz [(a1, b1, v1), (a2, b2, v2), (a3, b3, v3)] W) :
    W.cell? ⟨a1, b1, none⟩ = some v1 ∧ W.cell? ⟨a2, b2, none⟩ = some v2 ∧ W.cell? ⟨a3, b3, none⟩ = some v3 ∧ QL lo wz [(a1, b1, v1), (a2, b2, v2), (a3, b3, v3)] W :=
  ⟨h.1 (a1, b1, v1) (by simp), h.1 (a2, b2, v2) (by simp), h.1 (a3, b3, v3) (by simp), h⟩
theorem qp_held {lo : Nat} {wz W : World} {cs : List (Nat × Nat × Value)} {p1 p2 p3 : Prop} (h : p1 ∧ p2 ∧ p3 ∧ QL lo wz cs W) : Below lo wz W := h.2.2.2.2
theorem qp_last {lo : Nat} {wz W : World} {cs : List (Nat × Nat × Value)} {p1 p2 p3 : Prop} (h : p1 ∧ p2 ∧ p3 ∧ QL lo wz cs W) : QL lo wz cs W := h.2.2.2
theorem qb_written {lo : Nat} {wz W : World} {a1 b1 a2 b2 a3 b3 a4 b4 a5 b5 a6 b6 a7 b7 a8 b8 a9 b9 a10 b10 a11 b11 a12 b12 a13 b13 : Nat} {v1 v2 v3 v4 v5 v6 v7 v8 v9 v10 v11 v12 v13 : Value} (h : QL lo wz [(a1, b1, v1), (a2, b2, v2), (a3, b3, v3), (a4, b4, v4), (a5, b5, v5), (a6, b6, v6), (a7, b7, v7), (a8, b8, v8), (a9, b9, v9), (a10, b10, v10), (a11, b11, v11), (a12, b12, v12), (a13, b13, v13)] W) :
    W.cell? ⟨a1, b1, none⟩ = some v1 ∧ W.cell? ⟨a2, b2, none⟩ = some v2 ∧ W.cell? ⟨a3, b3, none⟩ = some v3 ∧ W.cell? ⟨a4, b4, none⟩ = some v4 ∧ W.cell? ⟨a5, b5, none⟩ = some v5 ∧ W.cell? ⟨a6, b6, none⟩ = some v6 ∧ W.cell? ⟨a7, b7, none⟩ = some v7 ∧ W.cell? ⟨a8, b8, none⟩ = some v8 ∧ W.cell? ⟨a9, b9, none⟩ = some v9 ∧ W.cell? ⟨a10, b10, none⟩ = some v10 ∧ W.cell? ⟨a11, b11, none⟩ = some v11 ∧ W.cell? ⟨a12, b12, none⟩ = some v12 ∧ W.cell? ⟨a13, b13, none⟩ = some v13 ∧ QL lo wz [(a1, b1, v1), (a2, b2, v2), (a3, b3, v3), (a4, b4, v4), (a5, b5, v5), (a6, b6, v6), (a7, b7, v7), (a8, b8, v8), (a9, b9, v9), (a10, b10, v10), (a11, b11, v11), (a12, b12, v12), (a13, b13, v13)] W :=
  ⟨h.1 (a1, b1, v1) (by simp), h.1 (a2, b2, v2) (by simp), h.1 (a3, b3, v3) (by simp), h.1 (a4, b4, v4) (by simp), h.1 (a5, b5, v5) (by simp), h.1 (a6, b6, v6) (by simp), h.1 (a7, b7, v7) (by simp), h.1 (a8, b8, v8) (by simp), h.1 (a9, b9, v9) (by simp), h.1 (a10, b10, v10) (by simp), h.1 (a11, b11, v11) (by simp), h.1 (a12, b12, v12) (by simp), h.1 (a13, b13, v13) (by simp), h⟩
theorem qb_held {lo : Nat} {wz W : World} {cs : List (Nat × Nat × Value)} {p1 p2 p3 p4 p5 p6 p7 p8 p9 p10 p11 p12 p13 : Prop} (h : p1 ∧ p2 ∧ p3 ∧ p4 ∧ p5 ∧ p6 ∧ p7 ∧ p8 ∧ p9 ∧ p10 ∧ p11 ∧ p12 ∧ p13 ∧ QL lo wz cs W) : Below lo wz W := h.2.2.2.2.2.2.2.2.2.2.2.2.2.2
theorem qb_last {lo : Nat} {wz W : World} {cs : List (Nat × Nat × Value)} {p1 p2 p3 p4 p5 p6 p7 p8 p9 p10 p11 p12 p13 : Prop} (h : p1 ∧ p2 ∧ p3 ∧ p4 ∧ p5 ∧ p6 ∧ p7 ∧ p8 ∧ p9 ∧ p10 ∧ p11 ∧ p12 ∧ p13 ∧ QL lo wz cs W) : QL lo wz cs W := h.2.2.2.2.2.2.2.2.2.2.2.2.2
theorem QL.full {lo : Nat} {wz W W' : World} {cs : List (Nat × Nat × Value)} (h : QL lo wz cs W) (hl : ∀ p, p ∈ cs → p.1 < wz.heap.size) (hlo : lo ≤ wz.heap.size) (hb : Below W.heap.size W W') : QL lo wz cs W' :=
  ⟨fun p hp => (hb.cell (p := ⟨p.1, p.2.1, none⟩) (Nat.lt_of_lt_of_le (hl p hp) h.2.size)).trans (h.1 p hp), h.2.trans (hb.mono (Nat.le_trans hlo h.2.size))⟩
theorem QL.grown {lo : Nat} {wz W W' : World} {cs : List (Nat × Nat × Value)} {k : Option Nat} (h : QL lo wz cs W) (hl : ∀ p, p ∈ cs → p.1 < wz.heap.size) (hne : ∀ g, k = some g → lo ≤ g ∧ ∀ p, p ∈ cs → p.1 ≠ g) (hlo : lo ≤ wz.heap.size) (hg : W.grownBy W' k) : QL lo wz cs W' := by
  refine ⟨fun p hp => ?_, h.2.trans (below_grown (B := lo) (Below.refl lo _) hg (Nat.le_trans hlo h.2.size) (fun b hb => (hne b hb).1))⟩
  refine (World.cell?_of_block (a := ⟨p.1, p.2.1, none⟩) (hg.block p.1 (Nat.lt_of_lt_of_le (hl p hp) h.2.size) (fun e => ?_))).trans (h.1 p hp)
  exact (hne p.1 e.symm).2 p hp rfl
def SpO (xs : List PlT) (w : World) (e : Ending) (w' : World) : Prop := ∃ V, e = .returned V ∧ OwnR w.heap.size w' V xs ∧ Below w.heap.size w w'
def SpotsC (S : SchT) (N : Nat) : Prop := ∀ (n : ByteArray) (l m : Int) (hs : Bool) (v : VT) (c0 c1 c2 : Value) (A3 A4 : Option Addr) (k3 k4 : Nat) (w : World) (B : Nat), msr ⟨n, l, m, hs, v⟩ ≤ N → szV v ≤ 1100000 → n.size ≤ 9223372036854775807 → G S.defs ⟨n, l, m, hs, v⟩ → B ≤ w.heap.size → TS w (fun b => b < B) (encSch S) [c0, c1, c2] → TS w (fun b => b < B) (encV v) [.int .i64 v.kd, .int .i64 v.nn, .string v.ss, .slice A3 v.ls.len k3, .slice A4 v.ms.len k4] →
  Calls Tryz.prog 12 #[.agg #[c0, c1, c2], .agg #[.string n, .int .i64 l, .int .i64 m], .bool hs, .agg #[.int .i64 v.kd, .int .i64 v.nn, .string v.ss, .slice A3 v.ls.len k3, .slice A4 v.ms.len k4]] w (SpO (spP S.defs ⟨n, l, m, hs, v⟩) w)
theorem B3.nextL {w W W' : World} {gt gv lo : Nat} {o1 o2 o3 : Obj} (h : B3 w gt gv o1 o2 o3 W) (hb : Below lo W W') (h0 : w.heap.size < lo) (h1 : gt < lo) (h2 : gv < lo) : B3 w gt gv o1 o2 o3 W' :=
  ⟨h.low.trans (hb.mono (Nat.le_of_lt h0)), (hb.block _ h0).trans h.b0, (hb.block _ h1).trans h.b1, (hb.block _ h2).trans h.b2⟩
set_option maxRecDepth 100000 in
set_option maxHeartbeats 16000000 in
theorem rspots_any (S : SchT) (N : Nat) : SpotsC S N := by
  induction N using Nat.strongRecOn with
  | ind N IH =>
  intro n l m hs v c0 c1 c2 A3 A4 k3 k4 w B hm hvz hn hG hB hS hV
  have IT := Lib.hid (fun wx => ritem_any n l m wx hn)
  rw [itemV_eq] at IT
  have FI := Lib.hid (fun (wx : World) (hb : Below w.heap.size w wx) => rfind_any S n c0 c1 c2 wx B (Nat.le_trans hB hb.size) hn (TS.low (hb.mono hB) hS))
  have ONE := Lib.hid (fun (a : ¬ (v.kd = 8 ∨ v.kd = 0)) (hi : itemB n l m = true) (h6 : v.kd ≠ 6) (wx : World) (hb : Below w.heap.size w wx) => IH (msr ⟨n, l - 1, m / 2, false, v⟩) (Nat.lt_of_lt_of_le (msr_item (hs := hs) hi) hm) n (l - 1) (m / 2) false v c0 c1 c2 A3 A4 k3 k4 wx B (Nat.le_refl _) hvz hn (G_in hG (by rw [within_one a hi h6]; simp)) (Nat.le_trans hB hb.size) (TS.low (hb.mono hB) hS) (TS.low (hb.mono hB) hV))
  have hsz : szV v = 1 + szL v.ls + szM v.ms := by
    obtain ⟨k, n, s, l, m⟩ := v
    rw [szV]
    rfl
  have ELS := Lib.hid (fun (hi : itemB n l m = true) (h6 : v.kd = 6) (x : VT) (hx : x ∈ v.ls.list) (E3 E4 : Option Addr) (j3 j4 : Nat) hT (wx : World) (hb : Below w.heap.size w wx) => IH (msr ⟨n, l - 1, m / 2, false, x⟩) (Nat.lt_of_lt_of_le (msr_el (n := n) (l := l) (m := m) (hs := hs) hx) hm) n (l - 1) (m / 2) false x c0 c1 c2 E3 E4 j3 j4 wx B (Nat.le_refl _) (by have := szL_mem hx; omega) hn (G_in hG (by rw [within_els hi h6]; exact List.mem_map.2 ⟨x, hx, rfl⟩)) (Nat.le_trans hB hb.size) (TS.low (hb.mono hB) hS) (TS.low (hb.mono hB) hT))
  have MEM := Lib.hid (fun (hi : ¬ itemB n l m = true) (h7 : v.kd = 7) (y : ByteArray × VT) (hy : y ∈ v.ms.list) (hn' : (paramD (findD S.defs n).1.params y.1).1.tn.size ≤ 9223372036854775807) (E3 E4 : Option Addr) (j3 j4 : Nat) hT (wx : World) (hb : Below w.heap.size w wx) => IH (msr (memP (findD S.defs n).1.params y)) (Nat.lt_of_lt_of_le (msr_mem (n := n) (l := l) (m := m) (hs := hs) hy) hm) (paramD (findD S.defs n).1.params y.1).1.tn (paramD (findD S.defs n).1.params y.1).1.tl (paramD (findD S.defs n).1.params y.1).1.tm (paramD (findD S.defs n).1.params y.1).1.has y.2 c0 c1 c2 E3 E4 j3 j4 wx B (Nat.le_refl _) (by have := szM_mem hy; omega) hn' (G_in hG (by rw [within_map hi h7, mems_all (G_known hG hi h7)]; exact List.mem_map.2 ⟨y, hy, rfl⟩)) (Nat.le_trans hB hb.size) (TS.low (hb.mono hB) hS) (TS.low (hb.mono hB) hT))
  have HGK := Lib.hid (fun hi h7 => G_known hG hi h7)
  obtain ⟨F3, f3, F4, f4, e, hss, ⟨hll, hL⟩, hml, hM⟩ := encv_cells hV
  simp only [List.cons.injEq, Value.slice.injEq, and_true, true_and] at e
  obtain ⟨⟨rfl, rfl⟩, rfl, rfl⟩ := e
  rw [encL_list] at hL
  rw [encM_list] at hM
  have HL := Lib.hid hL
  have HM := Lib.hid hM
  have HB := Lib.hid hB
  have HLL := Lib.hid hll
  have HML := Lib.hid hml
  have HVZ := Lib.hid (And.intro hvz hsz)
  obtain ⟨AS, k, e, _⟩ := sch_cells hS
  injection e with e0 e
  injection e with e1 e
  injection e with e2 e
  subst e0 e1 e2
  have X0 := Lib.hid (B3.start w #[.slice AS S.defs.length k, .string S.query, .string S.mutation] #[.string n, .int .i64 l, .int .i64 m] #[.int .i64 v.kd, .int .i64 v.nn, .string v.ss, .slice A3 v.ls.len k3, .slice A4 v.ms.len k4] 24 26 30)
  have HLI := Lib.hid (VL.list_len v.ls)
  have HMI := Lib.hid (VM.list_len v.ms)
  have P8 := Lib.hid (fun h => spP_8 (D := S.defs) (n := n) (l := l) (m := m) (hs := hs) (v := v) h)
  have P0 := Lib.hid (fun h => spP_0 (D := S.defs) (n := n) (l := l) (m := m) (hs := hs) (v := v) h)
  have P1 := Lib.hid (fun a hi h6 => spP_one (D := S.defs) (n := n) (l := l) (m := m) (hs := hs) (v := v) a hi h6)
  have PE := Lib.hid (fun hi h6 => spP_els (D := S.defs) (n := n) (l := l) (m := m) (hs := hs) (v := v) hi h6)
  have PM := Lib.hid (fun hi h7 hk => spP_map (D := S.defs) (n := n) (l := l) (m := m) (hs := hs) (v := v) hi h7 hk)
  have PL := Lib.hid (fun hi h7 h8 => spP_leaf (D := S.defs) (n := n) (l := l) (m := m) (hs := hs) (v := v) hi h7 h8)
  clear IH hB hS hV hm hM hL e hml hss hll hG hvz hsz
  generalize hPP : spP S.defs ⟨n, l, m, hs, v⟩ = PP at P8 P0 P1 PE PM PL ⊢
  clear hPP
  go_enter Tryz.func12, Tryz.ntmps12
  go_upto_region 1 with fail
  generalize ((w.alloc (.cells #[.slice AS S.defs.length k, .string S.query, .string S.mutation] 24)).alloc (.cells #[.string n, .int .i64 l, .int .i64 m] 26)).alloc (.cells #[.int .i64 v.kd, .int .i64 v.nn, .string v.ss, .slice A3 v.ls.len k3, .slice A4 v.ms.len k4] 30) = w1 at X0 ⊢
  generalize w.heap.size + 1 + 1 = gv at X0 ⊢
  generalize w.heap.size + 1 = gt at X0 ⊢
  obtain ⟨y0, y1, y2⟩ := three_cells X0.out.b1
  obtain ⟨z0, z1, z2, z3, z4⟩ := five_box X0.out.b2
  obtain ⟨b8, g8⟩ : ∃ b, (v.kd == 8) = b := ⟨_, rfl⟩
  obtain ⟨b0, g0⟩ : ∃ b, (v.kd == 0) = b := ⟨_, rfl⟩
  have H8 : Hid (b8 = true ↔ v.kd = 8) := Lib.hid (by rw [← g8]; simp)
  have H0 : Hid (b0 = true ↔ v.kd = 0) := Lib.hid (by rw [← g0]; simp)
  cases b8 with
  | true =>
    have hpp := P8.out (H8.out.1 (by trivial))
    subst hpp
    go_wp2_with fail
    go_ret
    exact ⟨_, rfl, OwnR.one X0.out.low.size, X0.out.low.trans ((dbelow_new w1 _).mono X0.out.low.size)⟩
  | false =>
  cases b0 with
  | true =>
    have hpp := P0.out (H0.out.1 (by trivial))
    subst hpp
    go_wp2_with fail
    go_ret
    exact ⟨_, rfl, OwnR.nil _ _, X0.out.low⟩
  | false =>
  have A8 : Hid (¬ (v.kd = 8 ∨ v.kd = 0)) := Lib.hid (fun h => h.elim (fun h => by cases H8.out.2 h) (fun h => by cases H0.out.2 h))
  clear H8 H0 P8 P0
  go_wp2_with fail
  refine (IT.out _).mono ?_
  rintro e w3 ⟨rfl, hb⟩
  have X3 := Lib.hid (X0.out.next hb)
  clear hb y0 y1 y2 z0 z1 z2 z3 z4 X0 IT g8 g0
  by_cases hi : itemB n l m = true
  · rw [if_pos hi]
    unfold yesT
    have ONE := Lib.hid (ONE.out A8.out hi)
    have P1 := Lib.hid (P1.out A8.out hi)
    have ELS := Lib.hid (ELS.out hi)
    have PE := Lib.hid (PE.out hi)
    clear hi PM PL MEM FI A8 HGK HM HML HMI
    go_upto_region 7 with fail
    have X4 := Lib.hid (X3.out.next (dbelow_new w3 (.cells #[.string n, .int .i64 (l - 1), .int .i64 (m / 2)] 26)))
    have I4 := Lib.hid (heap_alloc_new w3 (.cells #[.string n, .int .i64 (l - 1), .int .i64 (m / 2)] 26))
    generalize w3.alloc (.cells #[.string n, .int .i64 (l - 1), .int .i64 (m / 2)] 26) = w4 at X4 I4 ⊢
    generalize w3.heap.size = g9 at I4 ⊢
    clear X3
    obtain ⟨y0, y1, y2⟩ := three_cells I4.out
    obtain ⟨x0, x1, x2⟩ := three_cells X4.out.b0
    obtain ⟨z0, z1, z2, z3, z4⟩ := five_box X4.out.b2
    obtain ⟨b6, g6⟩ : ∃ b, (v.kd == 6) = b := ⟨_, rfl⟩
    have H6 : Hid (b6 = true ↔ v.kd = 6) := Lib.hid (by rw [← g6]; simp)
    have g6n : (v.kd != 6) = !b6 := by rw [← g6]; rfl
    cases b6 with
    | false =>
      have h6 : v.kd ≠ 6 := fun h => by cases H6.out.2 h
      have hpp := P1.out h6
      subst hpp
      have ONE := Lib.hid (ONE.out h6)
      clear h6
      go_wp2_with fail
      refine (ONE.out _ X4.out.low).mono ?_
      rintro e w5 ⟨V, rfl, hO, hb⟩
      have X5 := Lib.hid (X4.out.next hb)
      have HO := Lib.hid (hO.mono X4.out.low.size)
      clear hb hO x0 x1 x2 y0 y1 y2 z0 z1 z2 z3 z4 X4 I4
      go_wp2_with fail
      go_ret
      exact ⟨V, rfl, HO.out, X5.out.low⟩
    | true =>
      have hpp := PE.out (H6.out.1 (by trivial))
      subst hpp
      have ELS := Lib.hid (ELS.out (H6.out.1 (by trivial)))
      clear ONE P1 PE H6
      obtain ⟨lo, hlo⟩ : ∃ lo, w4.heap.size = lo := ⟨_, rfl⟩
      have HLS : Hid (w.heap.size < lo ∧ gt < lo ∧ gv < lo ∧ g9 < lo) := Lib.hid (by
        rw [← hlo]
        exact ⟨(Array.getElem?_eq_some_iff.1 X4.out.b0).1, (Array.getElem?_eq_some_iff.1 X4.out.b1).1, (Array.getElem?_eq_some_iff.1 X4.out.b2).1, (Array.getElem?_eq_some_iff.1 I4.out).1⟩)
      have HLO4 := Lib.hid (Nat.le_of_eq hlo.symm)
      clear hlo
      go_wp2_with fail
      go_loopg [11, 12] v.ls.len (fun g out i wx => ∃ q : Nat, q + g = v.ls.len ∧ i = .int .i64 q ∧ Aside (B3 w gt gv (.cells #[.slice AS S.defs.length k, .string S.query, .string S.mutation] 24 (0, 0)) (.cells #[.string n, .int .i64 l, .int .i64 m] 26 (0, 0)) (.cells #[.int .i64 v.kd, .int .i64 v.nn, .string v.ss, .slice A3 v.ls.len k3, .slice A4 v.ms.len k4] 30 (0, 0)) wx ∧ wx.heap[g9]? = some (.cells #[.string n, .int .i64 (l - 1), .int .i64 (m / 2)] 26 (0, 0)) ∧ OwnR lo wx out ((v.ls.list.take q).flatMap fun x => spP S.defs ⟨n, l - 1, m / 2, false, x⟩) ∧ lo ≤ wx.heap.size))
      case atStart => exact ⟨0, by omega, rfl, Blk.Aside.intro ⟨X4.out, I4.out, OwnR.nil _ _, HLO4.out⟩⟩
      case round =>
        obtain ⟨q, hq, rfl, HX⟩ := hrel
        have XX := Lib.hid HX.out.1
        have II := Lib.hid HX.out.2.1
        have HO := Lib.hid HX.out.2.2.1
        have HLO := Lib.hid HX.out.2.2.2
        have BX := Lib.hid XX.out.low
        clear HX X4 I4 x0 x1 x2 y0 y1 y2 z0 z1 z2 z3 z4 HLO4
        obtain ⟨z0, z1, z2, z3, z4⟩ := five_box XX.out.b2
        cases gk with
        | zero =>
          obtain rfl : q = v.ls.len := by omega
          have HO' := Lib.hid (HO.out.mono (Nat.le_of_lt HLS.out.1))
          rw [List.take_of_length_le (by rw [HLI.out]; exact Nat.le_refl _)] at HO'
          clear HO
          go_wp2_with fail
          go_ret
          exact ⟨_, rfl, HO'.out, XX.out.low⟩
        | succ g =>
          have hll := HLL.out
          have hqn : q < v.ls.len := by omega
          have hqn' : (q : Int) < (v.ls.len : Int) := by omega
          obtain ⟨x, hx⟩ : ∃ x, v.ls.list[q]? = some x := ⟨_, List.getElem?_eq_getElem (by rw [HLI.out]; exact hqn)⟩
          obtain ⟨b, o, E3, j3, E4, j4, rfl, hb, ⟨c0, c1, c2, c3, c4⟩, hT⟩ := val_at HL.out hx
          have XR := Lib.hid (ELS.out x (List.mem_of_getElem? hx) E3 E4 j3 j4 hT)
          have HBW := Lib.hid (Nat.lt_of_lt_of_le hb HB.out)
          have HC := Lib.hid (And.intro c0 (And.intro c1 (And.intro c2 (And.intro c3 c4))))
          have HFS := Lib.hid (flat_snoc (f := fun x => spP S.defs ⟨n, l - 1, m / 2, false, x⟩) hx)
          have hle1 := els_len (D := S.defs) (n := n) (l := l - 1) (m := m / 2) v.ls q
          have hle2 : (spP S.defs ⟨n, l - 1, m / 2, false, x⟩).length ≤ 5 * szV x := spP_len S.defs ⟨n, l - 1, m / 2, false, x⟩
          have hle3 := szL_mem (List.mem_of_getElem? hx)
          generalize (v.ls.list.take q).flatMap (fun x => spP S.defs ⟨n, l - 1, m / 2, false, x⟩) = OUT at HO HFS hle1
          have HLN : Hid (OUT.length + (spP S.defs ⟨n, l - 1, m / 2, false, x⟩).length ≤ 100000000) := Lib.hid (by have := HVZ.out; omega)
          clear hx hb hT c0 c1 c2 c3 c4 ELS hle1 hle2 hle3
          go_wp2_with fail
          have HE : Hid (QL lo wr [(w.heap.size, 0, (Value.slice AS S.defs.length k)), (w.heap.size, 1, (Value.string S.query)), (w.heap.size, 2, (Value.string S.mutation)), (g9, 0, (Value.string n)), (g9, 1, (Value.int .i64 (l - 1))), (g9, 2, (Value.int .i64 (m / 2))), (gv, 3, (Value.slice (some ⟨b, o, none⟩) v.ls.len k3)), (b, o + q * 5, (Value.int .i64 x.kd)), (b, o + q * 5 + 1, (Value.int .i64 x.nn)), (b, o + q * 5 + 2, (Value.string x.ss)), (b, o + q * 5 + 3, (Value.slice E3 x.ls.len j3)), (b, o + q * 5 + 4, (Value.slice E4 x.ms.len j4))] wr) := Lib.hid (by
            obtain ⟨x0, x1, x2⟩ := three_cells XX.out.b0
            obtain ⟨i0, i1, i2⟩ := three_cells II.out
            obtain ⟨s0, s1, s2, s3, s4⟩ := HC.out
            have s0 := (BX.out.cell (p := ⟨b, o + q * 5, none⟩) HBW.out).trans s0
            have s1 := (BX.out.cell (p := ⟨b, o + q * 5 + 1, none⟩) HBW.out).trans s1
            have s2 := (BX.out.cell (p := ⟨b, o + q * 5 + 2, none⟩) HBW.out).trans s2
            have s3 := (BX.out.cell (p := ⟨b, o + q * 5 + 3, none⟩) HBW.out).trans s3
            have s4 := (BX.out.cell (p := ⟨b, o + q * 5 + 4, none⟩) HBW.out).trans s4
            refine ⟨fun p hp => ?_, Below.refl _ _⟩
            simp only [List.mem_cons, List.not_mem_nil, or_false] at hp
            rcases hp with rfl | rfl | rfl | rfl | rfl | rfl | rfl | rfl | rfl | rfl | rfl | rfl <;> assumption)
          have HLW : Hid (∀ p, p ∈ [(w.heap.size, 0, (Value.slice AS S.defs.length k)), (w.heap.size, 1, (Value.string S.query)), (w.heap.size, 2, (Value.string S.mutation)), (g9, 0, (Value.string n)), (g9, 1, (Value.int .i64 (l - 1))), (g9, 2, (Value.int .i64 (m / 2))), (gv, 3, (Value.slice (some ⟨b, o, none⟩) v.ls.len k3)), (b, o + q * 5, (Value.int .i64 x.kd)), (b, o + q * 5 + 1, (Value.int .i64 x.nn)), (b, o + q * 5 + 2, (Value.string x.ss)), (b, o + q * 5 + 3, (Value.slice E3 x.ls.len j3)), (b, o + q * 5 + 4, (Value.slice E4 x.ms.len j4))] → p.1 < lo) := Lib.hid (fun p hp => by
            obtain ⟨l0, l1, l2, l3⟩ := HLS.out
            have l4 := Nat.lt_trans HBW.out l0
            simp only [List.mem_cons, List.not_mem_nil, or_false] at hp
            rcases hp with rfl | rfl | rfl | rfl | rfl | rfl | rfl | rfl | rfl | rfl | rfl | rfl <;> assumption)
          clear z0 z1 z2 z3 z4
          refine wp_region_held_drew (S := (fun w' => w'.cell? ⟨w.heap.size, 0, none⟩ = some (Value.slice AS S.defs.length k) ∧ w'.cell? ⟨w.heap.size, 1, none⟩ = some (Value.string S.query) ∧ w'.cell? ⟨w.heap.size, 2, none⟩ = some (Value.string S.mutation) ∧ w'.cell? ⟨g9, 0, none⟩ = some (Value.string n) ∧ w'.cell? ⟨g9, 1, none⟩ = some (Value.int .i64 (l - 1)) ∧ w'.cell? ⟨g9, 2, none⟩ = some (Value.int .i64 (m / 2)) ∧ w'.cell? ⟨gv, 3, none⟩ = some (Value.slice (some ⟨b, o, none⟩) v.ls.len k3) ∧ w'.cell? ⟨b, o + q * 5, none⟩ = some (Value.int .i64 x.kd) ∧ w'.cell? ⟨b, o + q * 5 + 1, none⟩ = some (Value.int .i64 x.nn) ∧ w'.cell? ⟨b, o + q * 5 + 2, none⟩ = some (Value.string x.ss) ∧ w'.cell? ⟨b, o + q * 5 + 3, none⟩ = some (Value.slice E3 x.ls.len j3) ∧ w'.cell? ⟨b, o + q * 5 + 4, none⟩ = some (Value.slice E4 x.ms.len j4) ∧ QL lo wr [(w.heap.size, 0, (Value.slice AS S.defs.length k)), (w.heap.size, 1, (Value.string S.query)), (w.heap.size, 2, (Value.string S.mutation)), (g9, 0, (Value.string n)), (g9, 1, (Value.int .i64 (l - 1))), (g9, 2, (Value.int .i64 (m / 2))), (gv, 3, (Value.slice (some ⟨b, o, none⟩) v.ls.len k3)), (b, o + q * 5, (Value.int .i64 x.kd)), (b, o + q * 5 + 1, (Value.int .i64 x.nn)), (b, o + q * 5 + 2, (Value.string x.ss)), (b, o + q * 5 + 3, (Value.slice E3 x.ls.len j3)), (b, o + q * 5 + 4, (Value.slice E4 x.ms.len j4))] w')) (by kernel_rfl) (qa_written (HE.out.next HLW.out (Below.drew (Below.refl _ _)))) (fun hHeld => ?_)
          refine wpAnyH_take (i := 0) (oi := _) (v := ?_) rfl (by kernel_rfl) (by kernel_rfl) (by kernel_rfl) (fun _ _ _ h => h) (Or.inl ⟨by rfl, ?_⟩) (by assumption) ?_
          rotate_left
          · (intro w hSw; (try dsimp only at hSw); go_simp; try with_reducible rfl)
          try simp only [Act.put, List.getElem_toArray, List.getElem_cons_zero, List.setIfInBounds_toArray, List.set_cons_zero, List.set_cons_succ]
          refine wpAnyH_take (i := 1) (oi := _) (v := ?_) rfl (by kernel_rfl) (by kernel_rfl) (by kernel_rfl) (fun _ _ _ h => h) (Or.inl ⟨by rfl, ?_⟩) (by assumption) ?_
          rotate_left
          · (intro w hSw; (try dsimp only at hSw); go_simp; try with_reducible rfl)
          try simp only [Act.put, List.getElem_toArray, List.getElem_cons_zero, List.getElem_cons_succ, List.setIfInBounds_toArray, List.set_cons_zero, List.set_cons_succ]
          refine wpAnyH_take (i := 2) (oi := _) (v := ?_) rfl (by kernel_rfl) (by kernel_rfl) (by kernel_rfl) (fun _ _ _ h => h) (Or.inl ⟨by rfl, ?_⟩) (by assumption) ?_
          rotate_left
          · (intro w hSw; (try dsimp only at hSw); go_simp; try with_reducible rfl)
          try simp only [Act.put, List.getElem_toArray, List.getElem_cons_zero, List.getElem_cons_succ, List.setIfInBounds_toArray, List.set_cons_zero, List.set_cons_succ]
          refine wpAnyH_take (i := 3) (oi := _) (v := ?_) rfl (by kernel_rfl) (by kernel_rfl) (by kernel_rfl) (fun _ _ _ h => h) (Or.inl ⟨by rfl, ?_⟩) (by assumption) ?_
          rotate_left
          · (intro w hSw; (try dsimp only at hSw); go_simp; try with_reducible rfl)
          try simp only [Act.put, List.getElem_toArray, List.getElem_cons_zero, List.getElem_cons_succ, List.setIfInBounds_toArray, List.set_cons_zero, List.set_cons_succ]
          refine wpAnyH_take (i := 4) (oi := _) (v := ?_) rfl (by kernel_rfl) (by kernel_rfl) (by kernel_rfl) (fun _ _ _ h => h) (Or.inl ⟨by rfl, ?_⟩) (by assumption) ?_
          rotate_left
          · (intro w hSw; (try dsimp only at hSw); go_simp; try with_reducible rfl)
          try simp only [Act.put, List.getElem_toArray, List.getElem_cons_zero, List.getElem_cons_succ, List.setIfInBounds_toArray, List.set_cons_zero, List.set_cons_succ]
          refine wpAnyH_take (i := 5) (oi := _) (v := ?_) rfl (by kernel_rfl) (by kernel_rfl) (by kernel_rfl) (fun _ _ _ h => h) (Or.inl ⟨by rfl, ?_⟩) (by assumption) ?_
          rotate_left
          · (intro w hSw; (try dsimp only at hSw); go_simp; try with_reducible rfl)
          try simp only [Act.put, List.getElem_toArray, List.getElem_cons_zero, List.getElem_cons_succ, List.setIfInBounds_toArray, List.set_cons_zero, List.set_cons_succ]
          refine wpAnyH_take (i := 6) (oi := _) (v := ?_) rfl (by kernel_rfl) (by kernel_rfl) (by kernel_rfl) (fun _ _ _ h => h) (Or.inl ⟨by rfl, ?_⟩) (by assumption) ?_
          rotate_left
          · (intro w hSw; (try dsimp only at hSw); go_simp; try with_reducible rfl)
          try simp only [Act.put, List.getElem_toArray, List.getElem_cons_zero, List.getElem_cons_succ, List.setIfInBounds_toArray, List.set_cons_zero, List.set_cons_succ]
          refine wpAnyH_take (i := 7) (oi := _) (v := ?_) rfl (by kernel_rfl) (by kernel_rfl) (by kernel_rfl) (fun _ _ _ h => h) (Or.inl ⟨by rfl, ?_⟩) (by assumption) ?_
          rotate_left
          · (intro w hSw; (try dsimp only at hSw); go_simp; try with_reducible rfl)
          try simp only [Act.put, List.getElem_toArray, List.getElem_cons_zero, List.getElem_cons_succ, List.setIfInBounds_toArray, List.set_cons_zero, List.set_cons_succ]
          refine wpAnyH_ready (rs := [8]) (by kernel_rfl) (by simp) ?_
          refine AllReadyH.cons (o := _) rfl (fun K hK => ?_) AllReadyH.nil
          go_simp
          refine (XR.out _ (BX.out.trans (Below.mono (Below.drew (Below.refl _ _)) BX.out.size))).mono ?_
          rintro e wc ⟨V2, rfl, ho2, hb⟩
          have HFU := Lib.hid ((Below.drew (Below.refl _ _) : Below wr.heap.size wr _).trans (hb.mono (Below.drew (Below.refl _ _) : Below wr.heap.size wr _).size))
          have HBL := Lib.hid (hb.mono (Nat.le_trans HLO.out (Below.drew (Below.refl _ _) : Below wr.heap.size wr _).size))
          have HO2 := Lib.hid ho2
          clear hb ho2
          go_wp2_with fail
          refine hK.out _ _ (qa_written (QL.next (qa_last (by assumption)) HLW.out HBL.out)) (fun hHeld => ?_)
          clear hK K
          try simp only [Act.put, List.getElem_toArray, List.getElem_cons_zero, List.getElem_cons_succ, List.setIfInBounds_toArray, List.set_cons_zero, List.set_cons_succ]
          refine wpAnyH_ready (rs := [9]) (by kernel_rfl) (by simp) ?_
          refine AllReadyH.cons (o := _) rfl (fun K hK => ?_) AllReadyH.nil
          refine step_spots rfl _ _ rfl lo _ _ V2 OUT (spP S.defs ⟨n, l - 1, m / 2, false, x⟩) rfl rfl (HO.out.low HFU.out) HO2.out HLN.out (Nat.le_trans HLO.out HFU.out.size) ?_
          intro V3 wd ho3 hg3
          have HO3 := Lib.hid ho3
          have HBL := Lib.hid (below_grown (B := lo) (Below.refl lo _) hg3 (Nat.le_trans HLO.out HFU.out.size) (fun b hb => ((HO.out.low HFU.out).2.lt b hb).1))
          clear ho3 hg3
          refine hK.out _ _ (qa_written (QL.next (qa_last (by assumption)) HLW.out HBL.out)) (fun hHeld => ?_)
          clear hK K
          try simp only [Act.put, List.getElem_toArray, List.getElem_cons_zero, List.getElem_cons_succ, List.setIfInBounds_toArray, List.set_cons_zero, List.set_cons_succ]
          refine wpAnyH_take (i := 10) (oi := _) (v := ?_) rfl (by kernel_rfl) (by kernel_rfl) (by kernel_rfl) (fun _ _ _ h => h) (Or.inl ⟨by rfl, ?_⟩) (by assumption) ?_
          rotate_left
          · (intro w hSw; (try dsimp only at hSw); go_simp; try with_reducible rfl)
          try simp only [Act.put, List.getElem_toArray, List.getElem_cons_zero, List.getElem_cons_succ, List.setIfInBounds_toArray, List.set_cons_zero, List.set_cons_succ]
          refine wpAnyH_done (by kernel_rfl) ?_ _
          have HD := Lib.hid (qa_held hHeld)
          clear hHeld
          have X5 := Lib.hid (XX.out.nextL HD.out HLS.out.1 HLS.out.2.1 HLS.out.2.2.1)
          have I5 := Lib.hid ((HD.out.block _ HLS.out.2.2.2).trans II.out)
          have HL5 := Lib.hid (Nat.le_trans HLO.out HD.out.size)
          clear HE HLW XR XX BX II HD HBL HFU HO2
          go_wp2_with fail
          go_roundg g
          case measure => omega
          case rel => exact ⟨q + 1, by omega, by go_num, Blk.Aside.intro ⟨X5.out, I5.out, by rw [HFS.out]; exact HO3.out, HL5.out⟩⟩
  · rw [if_neg hi]
    unfold noT
    have MEM := Lib.hid (MEM.out hi)
    have HGK := Lib.hid (HGK.out hi)
    have PM := Lib.hid (PM.out hi)
    have PL := Lib.hid (PL.out hi)
    clear hi P1 PE ONE ELS HL
    go_upto_region 7 with fail
    have X4 := Lib.hid (X3.out.next (dbelow_new w3 (.cells #[.string ⟨#[]⟩, .int .i64 0, .int .i64 0] 26)))
    generalize w3.alloc (.cells #[.string ⟨#[]⟩, .int .i64 0, .int .i64 0] 26) = w4 at X4 ⊢
    clear X3
    obtain ⟨y0, y1, y2⟩ := three_cells X4.out.b1
    obtain ⟨x0, x1, x2⟩ := three_cells X4.out.b0
    obtain ⟨z0, z1, z2, z3, z4⟩ := five_box X4.out.b2
    obtain ⟨b7, g7⟩ : ∃ b, (v.kd == 7) = b := ⟨_, rfl⟩
    have H7 : Hid (b7 = true ↔ v.kd = 7) := Lib.hid (by rw [← g7]; simp)
    cases b7 with
    | false =>
      have hpl := PL.out (fun h => by cases H7.out.2 h) (fun h => A8.out (Or.inl h))
      subst hpl
      go_wp2_with fail
      go_ret
      exact ⟨_, rfl, OwnR.nil _ _, X4.out.low⟩
    | true =>
      have h7 := H7.out.1 (by trivial)
      have hpp := PM.out h7 (HGK.out h7)
      subst hpp
      have MEM := Lib.hid (MEM.out h7)
      clear h7 PM PL HGK A8 H7
      go_wp2_with fail
      refine (FI.out _ X4.out.low).mono ?_
      rintro e w5 ⟨d0, d1, d2, d3, d4, d5, rfl, hT, hb⟩
      have X5 := Lib.hid (X4.out.next hb)
      clear hb FI y0 y1 y2 x0 x1 x2 z0 z1 z2 z3 z4 X4
      obtain ⟨fd, hfd⟩ : ∃ fd, findD S.defs n = fd := ⟨_, rfl⟩
      rw [hfd] at hT MEM ⊢
      obtain ⟨d, ok⟩ := fd
      have HFD := Lib.hid hfd
      clear hfd
      dsimp only at hT MEM ⊢
      obtain ⟨Af, kf, Ax, kx, Ap, kp, Am, km, e, _, _, _, _, ⟨hlm, hrm⟩⟩ := defn_cells hT
      simp only [List.cons.injEq, and_true] at e
      obtain ⟨rfl, rfl, rfl, rfl, rfl, rfl⟩ := e
      have HRM := Lib.hid hrm
      have HLM := Lib.hid hlm
      clear hT hrm hlm
      go_upto_region 16 with fail
      have hbn := dbelow_new w5 (.cells #[.int .i64 d.kind, .string d.name, .slice Af d.faces.length kf, .slice Ax d.fields.length kx, .slice Ap d.parts.length kp, .slice Am d.params.length km] 65)
      have X6 := Lib.hid (X5.out.next hbn)
      have D6 := Lib.hid (heap_alloc_new w5 (.cells #[.int .i64 d.kind, .string d.name, .slice Af d.faces.length kf, .slice Ax d.fields.length kx, .slice Ap d.parts.length kp, .slice Am d.params.length km] 65))
      have RM6 := Lib.hid (RowT.below (hbn.mono (Nat.le_trans HB.out X5.out.low.size)) HRM.out)
      generalize w5.alloc (.cells #[.int .i64 d.kind, .string d.name, .slice Af d.faces.length kf, .slice Ax d.fields.length kx, .slice Ap d.parts.length kp, .slice Am d.params.length km] 65) = w6 at X6 D6 RM6 hbn ⊢
      generalize w5.heap.size = g13 at D6 ⊢
      clear hbn HRM X5
      have TN := Lib.hid (fun nm => paramD_tn RM6.out nm)
      have PA0 := Lib.hid (fun (wx : World) (hb : Below B w6 wx) (hBw : B ≤ wx.heap.size) (nm : ByteArray) (hnm : nm.size ≤ 9223372036854775807) => rparam_any d.params Am km nm wx (fun b => b < B) (fun b h => Nat.lt_of_lt_of_le h hBw) HLM.out hnm (RowT.keep (fun b h => ⟨h, hb.block b h⟩) _ _ RM6.out))
      obtain ⟨z0, z1, z2, z3, z4⟩ := five_box X6.out.b2
      obtain ⟨lo, hlo⟩ : ∃ lo, w6.heap.size = lo := ⟨_, rfl⟩
      have HLS : Hid (w.heap.size < lo ∧ gt < lo ∧ gv < lo ∧ g13 < lo) := Lib.hid (by
        rw [← hlo]
        exact ⟨(Array.getElem?_eq_some_iff.1 X6.out.b0).1, (Array.getElem?_eq_some_iff.1 X6.out.b1).1, (Array.getElem?_eq_some_iff.1 X6.out.b2).1, (Array.getElem?_eq_some_iff.1 D6.out).1⟩)
      have HLO4 := Lib.hid (Nat.le_of_eq hlo.symm)
      clear hlo
      have HBL6 := Lib.hid (Nat.lt_of_le_of_lt HB.out HLS.out.1)
      go_wp2_with fail
      go_loopg [11, 15] v.ms.len (fun g out i wx => ∃ q : Nat, q + g = v.ms.len ∧ i = .int .i64 q ∧ Aside (B3 w gt gv (.cells #[.slice AS S.defs.length k, .string S.query, .string S.mutation] 24 (0, 0)) (.cells #[.string n, .int .i64 l, .int .i64 m] 26 (0, 0)) (.cells #[.int .i64 v.kd, .int .i64 v.nn, .string v.ss, .slice A3 v.ls.len k3, .slice A4 v.ms.len k4] 30 (0, 0)) wx ∧ wx.heap[g13]? = some (.cells #[.int .i64 d.kind, .string d.name, .slice Af d.faces.length kf, .slice Ax d.fields.length kx, .slice Ap d.parts.length kp, .slice Am d.params.length km] 65 (0, 0)) ∧ OwnR lo wx out ((v.ms.list.take q).flatMap fun y => spP S.defs (memP d.params y)) ∧ lo ≤ wx.heap.size ∧ Below lo w6 wx))
      case atStart => exact ⟨0, by omega, rfl, Blk.Aside.intro ⟨X6.out, D6.out, OwnR.nil _ _, HLO4.out, Below.refl _ _⟩⟩
      case round =>
        obtain ⟨q, hq, rfl, HX⟩ := hrel
        have XX := Lib.hid HX.out.1
        have DD := Lib.hid HX.out.2.1
        have HO := Lib.hid HX.out.2.2.1
        have HLO := Lib.hid HX.out.2.2.2.1
        have H6X := Lib.hid HX.out.2.2.2.2
        have BX := Lib.hid XX.out.low
        clear HX X6 D6 z0 z1 z2 z3 z4 HLO4
        obtain ⟨z0, z1, z2, z3, z4⟩ := five_box XX.out.b2
        cases gk with
        | zero =>
          obtain rfl : q = v.ms.len := by omega
          have HO' := Lib.hid (HO.out.mono (Nat.le_of_lt HLS.out.1))
          rw [List.take_of_length_le (by rw [HMI.out]; exact Nat.le_refl _)] at HO'
          clear HO
          go_wp2_with fail
          go_ret
          exact ⟨_, rfl, (by rw [HFD.out]; exact HO'.out), XX.out.low⟩
        | succ g =>
          have hll := HML.out
          have hqn : q < v.ms.len := by omega
          have hqn' : (q : Int) < (v.ms.len : Int) := by omega
          obtain ⟨x, hx⟩ : ∃ x, v.ms.list[q]? = some x := ⟨_, List.getElem?_eq_getElem (by rw [HMI.out]; exact hqn)⟩
          obtain ⟨b, o, E3, j3, E4, j4, rfl, hb, ⟨c0, c1, c2, c3, c4, c5⟩, hnm, hT⟩ := mem_at HM.out hx
          have XR := Lib.hid (MEM.out x (List.mem_of_getElem? hx) (TN.out x.1) E3 E4 j3 j4 hT)
          have PA := Lib.hid (fun (wx : World) (h : Below wr.heap.size wr wx) => PA0.out wx (((H6X.out.mono (Nat.le_of_lt HBL6.out)).trans (h.mono (Nat.le_trans (Nat.le_of_lt HBL6.out) HLO.out)))) (Nat.le_trans (Nat.le_trans (Nat.le_of_lt HBL6.out) HLO.out) h.size) x.1 hnm)
          have HBW := Lib.hid (Nat.lt_of_lt_of_le hb HB.out)
          have HC := Lib.hid (And.intro c0 (And.intro c1 (And.intro c2 (And.intro c3 (And.intro c4 c5)))))
          have HFS := Lib.hid (flat_snoc (f := fun y => spP S.defs (memP d.params y)) hx)
          have hle1 := mems_len (D := S.defs) (ps := d.params) v.ms q
          have hle2 : (spP S.defs (memP d.params x)).length ≤ 5 * szV x.2 := spP_len S.defs (memP d.params x)
          have hle3 := szM_mem (List.mem_of_getElem? hx)
          generalize (v.ms.list.take q).flatMap (fun y => spP S.defs (memP d.params y)) = OUT at HO HFS hle1
          have HLN : Hid (OUT.length + (spP S.defs (memP d.params x)).length ≤ 100000000) := Lib.hid (by have := HVZ.out; omega)
          have HY : Hid (memP d.params x = ⟨(paramD d.params x.1).1.tn, (paramD d.params x.1).1.tl, (paramD d.params x.1).1.tm, (paramD d.params x.1).1.has, x.2⟩ ∧ ∀ (wx : World) (hb : Below w.heap.size w wx), Calls Tryz.prog 12 #[.agg #[.slice AS S.defs.length k, .string S.query, .string S.mutation], .agg #[.string (paramD d.params x.1).1.tn, .int .i64 (paramD d.params x.1).1.tl, .int .i64 (paramD d.params x.1).1.tm], .bool (paramD d.params x.1).1.has, .agg #[.int .i64 x.2.kd, .int .i64 x.2.nn, .string x.2.ss, .slice E3 x.2.ls.len j3, .slice E4 x.2.ms.len j4]] wx (SpO (spP S.defs (memP d.params x)) wx)) := Lib.hid ⟨rfl, XR.out⟩
          generalize memP d.params x = mp at HY HFS HLN
          clear hx hb hT c0 c1 c2 c3 c4 c5 MEM hle1 hle2 hle3 XR hnm
          go_wp2_with fail
          have HE : Hid (QL lo wr [(g13, 5, (Value.slice Am d.params.length km)), (gv, 4, (Value.slice (some ⟨b, o, none⟩) v.ms.len k4)), (b, o + q * 6, (Value.string x.1))] wr) := Lib.hid (by
            obtain ⟨⟨x0, x1, x2, x3, x4, x5⟩, _⟩ := six_cells DD.out
            obtain ⟨s0, _⟩ := HC.out
            have s0 := (BX.out.cell (p := ⟨b, o + q * 6, none⟩) HBW.out).trans s0
            refine ⟨fun p hp => ?_, Below.refl _ _⟩
            simp only [List.mem_cons, List.not_mem_nil, or_false] at hp
            rcases hp with rfl | rfl | rfl <;> assumption)
          have HLW : Hid (∀ p, p ∈ [(g13, 5, (Value.slice Am d.params.length km)), (gv, 4, (Value.slice (some ⟨b, o, none⟩) v.ms.len k4)), (b, o + q * 6, (Value.string x.1))] → p.1 < lo) := Lib.hid (fun p hp => by
            obtain ⟨l0, l1, l2, l3⟩ := HLS.out
            have l4 := Nat.lt_trans HBW.out l0
            simp only [List.mem_cons, List.not_mem_nil, or_false] at hp
            rcases hp with rfl | rfl | rfl <;> assumption)
          clear z0 z1 z2 z3 z4
          refine wp_region_held_drew (S := (fun w' => w'.cell? ⟨g13, 5, none⟩ = some (Value.slice Am d.params.length km) ∧ w'.cell? ⟨gv, 4, none⟩ = some (Value.slice (some ⟨b, o, none⟩) v.ms.len k4) ∧ w'.cell? ⟨b, o + q * 6, none⟩ = some (Value.string x.1) ∧ QL lo wr [(g13, 5, (Value.slice Am d.params.length km)), (gv, 4, (Value.slice (some ⟨b, o, none⟩) v.ms.len k4)), (b, o + q * 6, (Value.string x.1))] w')) (by kernel_rfl) (qp_written (HE.out.next HLW.out (Below.drew (Below.refl _ _)))) (fun hHeld => ?_)
          refine wpAnyH_take (i := 0) (oi := _) (v := ?_) rfl (by kernel_rfl) (by kernel_rfl) (by kernel_rfl) (fun _ _ _ h => h) (Or.inl ⟨by rfl, ?_⟩) (by assumption) ?_
          rotate_left
          · (intro w hSw; (try dsimp only at hSw); go_simp; try with_reducible rfl)
          try simp only [Act.put, List.getElem_toArray, List.getElem_cons_zero, List.setIfInBounds_toArray, List.set_cons_zero, List.set_cons_succ]
          refine wpAnyH_take (i := 1) (oi := _) (v := ?_) rfl (by kernel_rfl) (by kernel_rfl) (by kernel_rfl) (fun _ _ _ h => h) (Or.inl ⟨by rfl, ?_⟩) (by assumption) ?_
          rotate_left
          · (intro w hSw; (try dsimp only at hSw); go_simp; try with_reducible rfl)
          try simp only [Act.put, List.getElem_toArray, List.getElem_cons_zero, List.getElem_cons_succ, List.setIfInBounds_toArray, List.set_cons_zero, List.set_cons_succ]
          refine wpAnyH_take (i := 2) (oi := _) (v := ?_) rfl (by kernel_rfl) (by kernel_rfl) (by kernel_rfl) (fun _ _ _ h => h) (Or.inl ⟨by rfl, ?_⟩) (by assumption) ?_
          rotate_left
          · (intro w hSw; (try dsimp only at hSw); go_simp; try with_reducible rfl)
          try simp only [Act.put, List.getElem_toArray, List.getElem_cons_zero, List.getElem_cons_succ, List.setIfInBounds_toArray, List.set_cons_zero, List.set_cons_succ]
          refine wpAnyH_take (i := 3) (oi := _) (v := ?_) rfl (by kernel_rfl) (by kernel_rfl) (by kernel_rfl) (fun _ _ _ h => h) (Or.inl ⟨by rfl, ?_⟩) (by assumption) ?_
          rotate_left
          · (intro w hSw; (try dsimp only at hSw); go_simp; try with_reducible rfl)
          try simp only [Act.put, List.getElem_toArray, List.getElem_cons_zero, List.getElem_cons_succ, List.setIfInBounds_toArray, List.set_cons_zero, List.set_cons_succ]
          refine wpAnyH_take (i := 4) (oi := _) (v := ?_) rfl (by kernel_rfl) (by kernel_rfl) (by kernel_rfl) (fun _ _ _ h => h) (Or.inl ⟨by rfl, ?_⟩) (by assumption) ?_
          rotate_left
          · (intro w hSw; (try dsimp only at hSw); go_simp; try with_reducible rfl)
          try simp only [Act.put, List.getElem_toArray, List.getElem_cons_zero, List.getElem_cons_succ, List.setIfInBounds_toArray, List.set_cons_zero, List.set_cons_succ]
          refine wpAnyH_take (i := 5) (oi := _) (v := ?_) rfl (by kernel_rfl) (by kernel_rfl) (by kernel_rfl) (fun _ _ _ h => h) (Or.inl ⟨by rfl, ?_⟩) (by assumption) ?_
          rotate_left
          · (intro w hSw; (try dsimp only at hSw); go_simp; try with_reducible rfl)
          try simp only [Act.put, List.getElem_toArray, List.getElem_cons_zero, List.getElem_cons_succ, List.setIfInBounds_toArray, List.set_cons_zero, List.set_cons_succ]
          refine wpAnyH_take (i := 6) (oi := _) (v := ?_) rfl (by kernel_rfl) (by kernel_rfl) (by kernel_rfl) (fun _ _ _ h => h) (Or.inl ⟨by rfl, ?_⟩) (by assumption) ?_
          rotate_left
          · (intro w hSw; (try dsimp only at hSw); go_simp; try with_reducible rfl)
          try simp only [Act.put, List.getElem_toArray, List.getElem_cons_zero, List.getElem_cons_succ, List.setIfInBounds_toArray, List.set_cons_zero, List.set_cons_succ]
          refine wpAnyH_take (i := 7) (oi := _) (v := ?_) rfl (by kernel_rfl) (by kernel_rfl) (by kernel_rfl) (fun _ _ _ h => h) (Or.inl ⟨by rfl, ?_⟩) (by assumption) ?_
          rotate_left
          · (intro w hSw; (try dsimp only at hSw); go_simp; try with_reducible rfl)
          try simp only [Act.put, List.getElem_toArray, List.getElem_cons_zero, List.getElem_cons_succ, List.setIfInBounds_toArray, List.set_cons_zero, List.set_cons_succ]
          refine wpAnyH_ready (rs := [8, 12]) (by kernel_rfl) (by simp) ?_
          refine AllReadyH.cons (o := _) rfl (fun K hK => ?_) (AllReadyH.cons (o := _) rfl (fun K hK => ?_) AllReadyH.nil)
          focus
            go_simp
            refine (PA.out _ (Below.drew (Below.refl _ _))).mono ?_
            rintro e wc ⟨P3, p3, P4, p4, rfl, hb⟩
            have HFU := Lib.hid ((Below.drew (Below.refl _ _) : Below wr.heap.size wr _).trans (hb.mono (Below.drew (Below.refl _ _) : Below wr.heap.size wr _).size))
            have HBL := Lib.hid (hb.mono (Nat.le_trans HLO.out (Below.drew (Below.refl _ _) : Below wr.heap.size wr _).size))
            clear hb
            generalize paramD d.params x.1 = y at HY ⊢
            obtain ⟨⟨ynm, ytn, ytl, ytm, yhas, yv⟩, ok⟩ := y
            dsimp only at HY ⊢
            go_wp2_with fail
            refine hK.out _ _ (qp_written (QL.next (qp_last (by assumption)) HLW.out HBL.out)) (fun hHeld => ?_)
            clear hK K
            try simp only [Act.put, List.getElem_toArray, List.getElem_cons_zero, List.getElem_cons_succ, List.setIfInBounds_toArray, List.set_cons_zero, List.set_cons_succ]
            refine wpAnyH_take (i := 9) (oi := _) (v := ?_) rfl (by kernel_rfl) (by kernel_rfl) (by kernel_rfl) (fun _ _ _ h => h) (Or.inl ⟨by rfl, ?_⟩) (by assumption) ?_
            rotate_left
            · (intro w hSw; (try dsimp only at hSw); go_simp; try with_reducible rfl)
            try simp only [Act.put, List.getElem_toArray, List.getElem_cons_zero, List.getElem_cons_succ, List.setIfInBounds_toArray, List.set_cons_zero, List.set_cons_succ]
            refine wpAnyH_take (i := 10) (oi := _) (v := ?_) rfl (by kernel_rfl) (by kernel_rfl) (by kernel_rfl) (fun _ _ _ h => h) (Or.inl ⟨by rfl, ?_⟩) (by assumption) ?_
            rotate_left
            · (intro w hSw; (try dsimp only at hSw); go_simp; try with_reducible rfl)
            try simp only [Act.put, List.getElem_toArray, List.getElem_cons_zero, List.getElem_cons_succ, List.setIfInBounds_toArray, List.set_cons_zero, List.set_cons_succ]
            refine wpAnyH_take (i := 11) (oi := _) (v := ?_) rfl (by kernel_rfl) (by kernel_rfl) (by kernel_rfl) (fun _ _ _ h => h) (Or.inl ⟨by rfl, ?_⟩) (by assumption) ?_
            rotate_left
            · (intro w hSw; (try dsimp only at hSw); go_simp; try with_reducible rfl)
            try simp only [Act.put, List.getElem_toArray, List.getElem_cons_zero, List.getElem_cons_succ, List.setIfInBounds_toArray, List.set_cons_zero, List.set_cons_succ]
            refine wpAnyH_ready (rs := [12]) (by kernel_rfl) (by simp) ?_
            refine AllReadyH.cons (o := _) rfl (fun K hK => ?_) AllReadyH.nil
            go_simp
            have HBL := Lib.hid ((dbelow_new wc (.cells #[.string ⟨#[]⟩, .string ⟨#[]⟩, .int .i64 0, .int .i64 0, .bool false, .int .i64 0, .int .i64 0, .string ⟨#[]⟩, .slice none 0 0, .slice none 0 0] 69)).mono (Nat.le_trans HLO.out HFU.out.size))
            have HFV := Lib.hid (HFU.out.trans ((dbelow_new wc (.cells #[.string ⟨#[]⟩, .string ⟨#[]⟩, .int .i64 0, .int .i64 0, .bool false, .int .i64 0, .int .i64 0, .string ⟨#[]⟩, .slice none 0 0, .slice none 0 0] 69)).mono HFU.out.size))
            have HZ := Lib.hid (heap_alloc_new wc (.cells #[.string ⟨#[]⟩, .string ⟨#[]⟩, .int .i64 0, .int .i64 0, .bool false, .int .i64 0, .int .i64 0, .string ⟨#[]⟩, .slice none 0 0, .slice none 0 0] 69))
            have HGZ := Lib.hid (HFU.out.size)
            generalize wc.alloc (.cells #[.string ⟨#[]⟩, .string ⟨#[]⟩, .int .i64 0, .int .i64 0, .bool false, .int .i64 0, .int .i64 0, .string ⟨#[]⟩, .slice none 0 0, .slice none 0 0] 69) = we at HBL HFV HZ ⊢
            generalize wc.heap.size = g16 at HZ HGZ ⊢
            refine hK.out _ _ (qp_written (QL.next (qp_last (by assumption)) HLW.out HBL.out)) (fun hHeld => ?_)
            clear hK K
            try simp only [Act.put, List.getElem_toArray, List.getElem_cons_zero, List.getElem_cons_succ, List.setIfInBounds_toArray, List.set_cons_zero, List.set_cons_succ]
            clear HFU
          rotate_left
          focus
            go_simp
            have hdr : Below (wr.alloc (.cells #[.string ⟨#[]⟩, .string ⟨#[]⟩, .int .i64 0, .int .i64 0, .bool false, .int .i64 0, .int .i64 0, .string ⟨#[]⟩, .slice none 0 0, .slice none 0 0] 69)).heap.size (wr.alloc (.cells #[.string ⟨#[]⟩, .string ⟨#[]⟩, .int .i64 0, .int .i64 0, .bool false, .int .i64 0, .int .i64 0, .string ⟨#[]⟩, .slice none 0 0, .slice none 0 0] 69)) (wr.alloc (.cells #[.string ⟨#[]⟩, .string ⟨#[]⟩, .int .i64 0, .int .i64 0, .bool false, .int .i64 0, .int .i64 0, .string ⟨#[]⟩, .slice none 0 0, .slice none 0 0] 69)).drew := Below.drew (Below.refl _ _)
            have HFU := Lib.hid ((dbelow_new wr (.cells #[.string ⟨#[]⟩, .string ⟨#[]⟩, .int .i64 0, .int .i64 0, .bool false, .int .i64 0, .int .i64 0, .string ⟨#[]⟩, .slice none 0 0, .slice none 0 0] 69)).trans (hdr.mono (dbelow_new wr (.cells #[.string ⟨#[]⟩, .string ⟨#[]⟩, .int .i64 0, .int .i64 0, .bool false, .int .i64 0, .int .i64 0, .string ⟨#[]⟩, .slice none 0 0, .slice none 0 0] 69)).size))
            have HBL := Lib.hid (HFU.out.mono HLO.out)
            have HZ := Lib.hid ((hdr.block _ (by simp)).trans (heap_alloc_new wr (.cells #[.string ⟨#[]⟩, .string ⟨#[]⟩, .int .i64 0, .int .i64 0, .bool false, .int .i64 0, .int .i64 0, .string ⟨#[]⟩, .slice none 0 0, .slice none 0 0] 69)))
            generalize (wr.alloc (.cells #[.string ⟨#[]⟩, .string ⟨#[]⟩, .int .i64 0, .int .i64 0, .bool false, .int .i64 0, .int .i64 0, .string ⟨#[]⟩, .slice none 0 0, .slice none 0 0] 69)).drew = wb at HBL HFU HZ ⊢
            obtain ⟨g16, hg16⟩ : ∃ g, wr.heap.size = g := ⟨_, rfl⟩
            have HGZ := Lib.hid (Nat.le_of_eq hg16)
            rw [hg16] at HZ ⊢
            clear hdr hg16
            refine hK.out _ _ (qp_written (HE.out.next HLW.out HBL.out)) (fun hHeld => ?_)
            clear hK K
            try simp only [Act.put, List.getElem_toArray, List.getElem_cons_zero, List.getElem_cons_succ, List.setIfInBounds_toArray, List.set_cons_zero, List.set_cons_succ]
            refine wpAnyH_ready (rs := [8]) (by kernel_rfl) (by simp) ?_
            refine AllReadyH.cons (o := _) rfl (fun K hK => ?_) AllReadyH.nil
            go_simp
            refine (PA.out _ HFU.out).mono ?_
            rintro e we ⟨P3, p3, P4, p4, rfl, hb⟩
            have HFV := Lib.hid (HFU.out.trans (hb.mono HFU.out.size))
            have HBL := Lib.hid (hb.mono (Nat.le_trans HLO.out HFU.out.size))
            have HZ := Lib.hid ((hb.block _ (Array.getElem?_eq_some_iff.1 HZ.out).1).trans HZ.out)
            clear hb
            generalize paramD d.params x.1 = y at HY ⊢
            obtain ⟨⟨ynm, ytn, ytl, ytm, yhas, yv⟩, ok⟩ := y
            dsimp only at HY ⊢
            go_wp2_with fail
            refine hK.out _ _ (qp_written (QL.next (qp_last (by assumption)) HLW.out HBL.out)) (fun hHeld => ?_)
            clear hK K
            try simp only [Act.put, List.getElem_toArray, List.getElem_cons_zero, List.getElem_cons_succ, List.setIfInBounds_toArray, List.set_cons_zero, List.set_cons_succ]
            refine wpAnyH_take (i := 9) (oi := _) (v := ?_) rfl (by kernel_rfl) (by kernel_rfl) (by kernel_rfl) (fun _ _ _ h => h) (Or.inl ⟨by rfl, ?_⟩) (by assumption) ?_
            rotate_left
            · (intro w hSw; (try dsimp only at hSw); go_simp; try with_reducible rfl)
            try simp only [Act.put, List.getElem_toArray, List.getElem_cons_zero, List.getElem_cons_succ, List.setIfInBounds_toArray, List.set_cons_zero, List.set_cons_succ]
            refine wpAnyH_take (i := 10) (oi := _) (v := ?_) rfl (by kernel_rfl) (by kernel_rfl) (by kernel_rfl) (fun _ _ _ h => h) (Or.inl ⟨by rfl, ?_⟩) (by assumption) ?_
            rotate_left
            · (intro w hSw; (try dsimp only at hSw); go_simp; try with_reducible rfl)
            try simp only [Act.put, List.getElem_toArray, List.getElem_cons_zero, List.getElem_cons_succ, List.setIfInBounds_toArray, List.set_cons_zero, List.set_cons_succ]
            refine wpAnyH_take (i := 11) (oi := _) (v := ?_) rfl (by kernel_rfl) (by kernel_rfl) (by kernel_rfl) (fun _ _ _ h => h) (Or.inl ⟨by rfl, ?_⟩) (by assumption) ?_
            rotate_left
            · (intro w hSw; (try dsimp only at hSw); go_simp; try with_reducible rfl)
            try simp only [Act.put, List.getElem_toArray, List.getElem_cons_zero, List.getElem_cons_succ, List.setIfInBounds_toArray, List.set_cons_zero, List.set_cons_succ]
            clear HFU
          all_goals
            refine wpAnyH_ready (rs := [13]) (by kernel_rfl) (by simp) ?_
            refine AllReadyH.cons (o := _) rfl (fun K hK => ?_) AllReadyH.nil
            obtain ⟨_, u0, u1, u2, u3, u4, u5, u6, u7, u8, u9⟩ := ten_cells HZ.out
            go_simp
            clear u0 u1 u2 u3 u4 u5 u6 u7 u8 u9
            have HBL := Lib.hid (ten_low (c0 := .string ynm) (c1 := .string ytn) (c2 := .int .i64 ytl) (c3 := .int .i64 ytm) (c4 := .bool yhas) (c5 := .int .i64 yv.kd) (c6 := .int .i64 yv.nn) (c7 := .string yv.ss) (c8 := .slice P3 yv.ls.len p3) (c9 := .slice P4 yv.ms.len p4) (Below.refl lo we) (Nat.le_trans HLO.out HGZ.out))
            refine hK.out _ _ (qp_written (QL.next (qp_last (by assumption)) HLW.out HBL.out)) (fun hHeld => ?_)
            clear hK K
            try simp only [Act.put, List.getElem_toArray, List.getElem_cons_zero, List.getElem_cons_succ, List.setIfInBounds_toArray, List.set_cons_zero, List.set_cons_succ]
            refine wpAnyH_take (i := 14) (oi := _) (v := ?_) rfl (by kernel_rfl) (by kernel_rfl) (by kernel_rfl) (fun _ _ _ h => h) (Or.inl ⟨by rfl, ?_⟩) (by assumption) ?_
            rotate_left
            · (intro w hSw; (try dsimp only at hSw); go_simp; try with_reducible rfl)
            try simp only [Act.put, List.getElem_toArray, List.getElem_cons_zero, List.getElem_cons_succ, List.setIfInBounds_toArray, List.set_cons_zero, List.set_cons_succ]
            refine wpAnyH_done (by kernel_rfl) ?_ _
            have HD := Lib.hid (qp_held hHeld)
            clear hHeld
            have B5f := Lib.hid (ten_low (c0 := .string ynm) (c1 := .string ytn) (c2 := .int .i64 ytl) (c3 := .int .i64 ytm) (c4 := .bool yhas) (c5 := .int .i64 yv.kd) (c6 := .int .i64 yv.nn) (c7 := .string yv.ss) (c8 := .slice P3 yv.ls.len p3) (c9 := .slice P4 yv.ms.len p4) HFV.out HGZ.out)
            have Y5 := Lib.hid (ten_set (c0 := .string ynm) (c1 := .string ytn) (c2 := .int .i64 ytl) (c3 := .int .i64 ytm) (c4 := .bool yhas) (c5 := .int .i64 yv.kd) (c6 := .int .i64 yv.nn) (c7 := .string yv.ss) (c8 := .slice P3 yv.ls.len p3) (c9 := .slice P4 yv.ms.len p4) HZ.out)
            generalize ((((((((((we.setCell ⟨g16, 0, none⟩ (.string ynm)).setCell ⟨g16, 1, none⟩ (.string ytn)).setCell ⟨g16, 2, none⟩ (.int .i64 ytl)).setCell ⟨g16, 3, none⟩ (.int .i64 ytm)).setCell ⟨g16, 4, none⟩ (.bool yhas)).setCell ⟨g16, 5, none⟩ (.int .i64 yv.kd)).setCell ⟨g16, 6, none⟩ (.int .i64 yv.nn)).setCell ⟨g16, 7, none⟩ (.string yv.ss)).setCell ⟨g16, 8, none⟩ (.slice P3 yv.ls.len p3)).setCell ⟨g16, 9, none⟩ (.slice P4 yv.ms.len p4)) = w5 at B5f Y5 ⊢
            have X5 := Lib.hid (XX.out.next B5f.out)
            have BX5 := Lib.hid X5.out.low
            have HO5 := Lib.hid (HO.out.low B5f.out)
            have HLO5 := Lib.hid (Nat.le_trans HLO.out B5f.out.size)
            have D5 := Lib.hid ((B5f.out.block _ (Array.getElem?_eq_some_iff.1 DD.out).1).trans DD.out)
            have H65 := Lib.hid (H6X.out.trans (B5f.out.mono HLO.out))
            have HVL := Lib.hid (fun g (h : _ = some g) => HO.out.2.lt g h)
            clear HE HLW HBL HFV HZ HD XX BX DD H6X HO
            go_wp2_with fail
            have HE : Hid (QL lo w5 [(w.heap.size, 0, (Value.slice AS S.defs.length k)), (w.heap.size, 1, (Value.string S.query)), (w.heap.size, 2, (Value.string S.mutation)), (g16, 1, (Value.string ytn)), (g16, 2, (Value.int .i64 ytl)), (g16, 3, (Value.int .i64 ytm)), (g16, 4, (Value.bool yhas)), (gv, 4, (Value.slice (some ⟨b, o, none⟩) v.ms.len k4)), (b, o + q * 6 + 1, (Value.int .i64 x.2.kd)), (b, o + q * 6 + 2, (Value.int .i64 x.2.nn)), (b, o + q * 6 + 3, (Value.string x.2.ss)), (b, o + q * 6 + 4, (Value.slice E3 x.2.ls.len j3)), (b, o + q * 6 + 5, (Value.slice E4 x.2.ms.len j4))] w5) := Lib.hid (by
              obtain ⟨x0, x1, x2⟩ := three_cells X5.out.b0
              obtain ⟨z0, z1, z2, z3, z4⟩ := five_box X5.out.b2
              obtain ⟨⟨u0, u1, u2, u3, u4, u5, u6, u7, u8, u9⟩, _⟩ := ten_cells Y5.out
              obtain ⟨s0, s1, s2, s3, s4, s5⟩ := HC.out
              have s1 := (BX5.out.cell (p := ⟨b, o + q * 6 + 1, none⟩) HBW.out).trans s1
              have s2 := (BX5.out.cell (p := ⟨b, o + q * 6 + 2, none⟩) HBW.out).trans s2
              have s3 := (BX5.out.cell (p := ⟨b, o + q * 6 + 3, none⟩) HBW.out).trans s3
              have s4 := (BX5.out.cell (p := ⟨b, o + q * 6 + 4, none⟩) HBW.out).trans s4
              have s5 := (BX5.out.cell (p := ⟨b, o + q * 6 + 5, none⟩) HBW.out).trans s5
              refine ⟨fun p hp => ?_, Below.refl _ _⟩
              simp only [List.mem_cons, List.not_mem_nil, or_false] at hp
              rcases hp with rfl | rfl | rfl | rfl | rfl | rfl | rfl | rfl | rfl | rfl | rfl | rfl | rfl <;> assumption)
            have HLW : Hid (∀ p, p ∈ [(w.heap.size, 0, (Value.slice AS S.defs.length k)), (w.heap.size, 1, (Value.string S.query)), (w.heap.size, 2, (Value.string S.mutation)), (g16, 1, (Value.string ytn)), (g16, 2, (Value.int .i64 ytl)), (g16, 3, (Value.int .i64 ytm)), (g16, 4, (Value.bool yhas)), (gv, 4, (Value.slice (some ⟨b, o, none⟩) v.ms.len k4)), (b, o + q * 6 + 1, (Value.int .i64 x.2.kd)), (b, o + q * 6 + 2, (Value.int .i64 x.2.nn)), (b, o + q * 6 + 3, (Value.string x.2.ss)), (b, o + q * 6 + 4, (Value.slice E3 x.2.ls.len j3)), (b, o + q * 6 + 5, (Value.slice E4 x.2.ms.len j4))] → p.1 < w5.heap.size) := Lib.hid (fun p hp => by
              obtain ⟨l0, l1, l2, l3⟩ := HLS.out
              have l4 := Nat.lt_trans HBW.out l0
              have l5 := (Array.getElem?_eq_some_iff.1 Y5.out).1
              have l0 := Nat.lt_of_lt_of_le l0 HLO5.out
              have l2 := Nat.lt_of_lt_of_le l2 HLO5.out
              have l4 := Nat.lt_of_lt_of_le l4 HLO5.out
              simp only [List.mem_cons, List.not_mem_nil, or_false] at hp
              rcases hp with rfl | rfl | rfl | rfl | rfl | rfl | rfl | rfl | rfl | rfl | rfl | rfl | rfl <;> assumption)
            have HNE : Hid (∀ g, u11.ownBlock = some g → lo ≤ g ∧ ∀ p, p ∈ [(w.heap.size, 0, (Value.slice AS S.defs.length k)), (w.heap.size, 1, (Value.string S.query)), (w.heap.size, 2, (Value.string S.mutation)), (g16, 1, (Value.string ytn)), (g16, 2, (Value.int .i64 ytl)), (g16, 3, (Value.int .i64 ytm)), (g16, 4, (Value.bool yhas)), (gv, 4, (Value.slice (some ⟨b, o, none⟩) v.ms.len k4)), (b, o + q * 6 + 1, (Value.int .i64 x.2.kd)), (b, o + q * 6 + 2, (Value.int .i64 x.2.nn)), (b, o + q * 6 + 3, (Value.string x.2.ss)), (b, o + q * 6 + 4, (Value.slice E3 x.2.ls.len j3)), (b, o + q * 6 + 5, (Value.slice E4 x.2.ms.len j4))] → p.1 ≠ g) := Lib.hid (fun g hg => by
              have hv := HVL.out g hg
              refine ⟨hv.1, fun p hp => ?_⟩
              obtain ⟨l0, l1, l2, l3⟩ := HLS.out
              have l4 := Nat.lt_trans HBW.out l0
              have l5 := HGZ.out
              simp only [List.mem_cons, List.not_mem_nil, or_false] at hp
              rcases hp with rfl | rfl | rfl | rfl | rfl | rfl | rfl | rfl | rfl | rfl | rfl | rfl | rfl <;> (dsimp only; omega))
            refine wp_region_held_drew (S := (fun w' => w'.cell? ⟨w.heap.size, 0, none⟩ = some (Value.slice AS S.defs.length k) ∧ w'.cell? ⟨w.heap.size, 1, none⟩ = some (Value.string S.query) ∧ w'.cell? ⟨w.heap.size, 2, none⟩ = some (Value.string S.mutation) ∧ w'.cell? ⟨g16, 1, none⟩ = some (Value.string ytn) ∧ w'.cell? ⟨g16, 2, none⟩ = some (Value.int .i64 ytl) ∧ w'.cell? ⟨g16, 3, none⟩ = some (Value.int .i64 ytm) ∧ w'.cell? ⟨g16, 4, none⟩ = some (Value.bool yhas) ∧ w'.cell? ⟨gv, 4, none⟩ = some (Value.slice (some ⟨b, o, none⟩) v.ms.len k4) ∧ w'.cell? ⟨b, o + q * 6 + 1, none⟩ = some (Value.int .i64 x.2.kd) ∧ w'.cell? ⟨b, o + q * 6 + 2, none⟩ = some (Value.int .i64 x.2.nn) ∧ w'.cell? ⟨b, o + q * 6 + 3, none⟩ = some (Value.string x.2.ss) ∧ w'.cell? ⟨b, o + q * 6 + 4, none⟩ = some (Value.slice E3 x.2.ls.len j3) ∧ w'.cell? ⟨b, o + q * 6 + 5, none⟩ = some (Value.slice E4 x.2.ms.len j4) ∧ QL lo w5 [(w.heap.size, 0, (Value.slice AS S.defs.length k)), (w.heap.size, 1, (Value.string S.query)), (w.heap.size, 2, (Value.string S.mutation)), (g16, 1, (Value.string ytn)), (g16, 2, (Value.int .i64 ytl)), (g16, 3, (Value.int .i64 ytm)), (g16, 4, (Value.bool yhas)), (gv, 4, (Value.slice (some ⟨b, o, none⟩) v.ms.len k4)), (b, o + q * 6 + 1, (Value.int .i64 x.2.kd)), (b, o + q * 6 + 2, (Value.int .i64 x.2.nn)), (b, o + q * 6 + 3, (Value.string x.2.ss)), (b, o + q * 6 + 4, (Value.slice E3 x.2.ls.len j3)), (b, o + q * 6 + 5, (Value.slice E4 x.2.ms.len j4))] w')) (by kernel_rfl) (qb_written (HE.out.full HLW.out HLO5.out (Below.drew (Below.refl _ _)))) (fun hHeld => ?_)
            refine wpAnyH_take (i := 0) (oi := _) (v := ?_) rfl (by kernel_rfl) (by kernel_rfl) (by kernel_rfl) (fun _ _ _ h => h) (Or.inl ⟨by rfl, ?_⟩) (by assumption) ?_
            rotate_left
            · (intro w hSw; (try dsimp only at hSw); go_simp; try with_reducible rfl)
            try simp only [Act.put, List.getElem_toArray, List.getElem_cons_zero, List.setIfInBounds_toArray, List.set_cons_zero, List.set_cons_succ]
            refine wpAnyH_take (i := 1) (oi := _) (v := ?_) rfl (by kernel_rfl) (by kernel_rfl) (by kernel_rfl) (fun _ _ _ h => h) (Or.inl ⟨by rfl, ?_⟩) (by assumption) ?_
            rotate_left
            · (intro w hSw; (try dsimp only at hSw); go_simp; try with_reducible rfl)
            try simp only [Act.put, List.getElem_toArray, List.getElem_cons_zero, List.getElem_cons_succ, List.setIfInBounds_toArray, List.set_cons_zero, List.set_cons_succ]
            refine wpAnyH_take (i := 2) (oi := _) (v := ?_) rfl (by kernel_rfl) (by kernel_rfl) (by kernel_rfl) (fun _ _ _ h => h) (Or.inl ⟨by rfl, ?_⟩) (by assumption) ?_
            rotate_left
            · (intro w hSw; (try dsimp only at hSw); go_simp; try with_reducible rfl)
            try simp only [Act.put, List.getElem_toArray, List.getElem_cons_zero, List.getElem_cons_succ, List.setIfInBounds_toArray, List.set_cons_zero, List.set_cons_succ]
            refine wpAnyH_take (i := 3) (oi := _) (v := ?_) rfl (by kernel_rfl) (by kernel_rfl) (by kernel_rfl) (fun _ _ _ h => h) (Or.inl ⟨by rfl, ?_⟩) (by assumption) ?_
            rotate_left
            · (intro w hSw; (try dsimp only at hSw); go_simp; try with_reducible rfl)
            try simp only [Act.put, List.getElem_toArray, List.getElem_cons_zero, List.getElem_cons_succ, List.setIfInBounds_toArray, List.set_cons_zero, List.set_cons_succ]
            refine wpAnyH_take (i := 4) (oi := _) (v := ?_) rfl (by kernel_rfl) (by kernel_rfl) (by kernel_rfl) (fun _ _ _ h => h) (Or.inl ⟨by rfl, ?_⟩) (by assumption) ?_
            rotate_left
            · (intro w hSw; (try dsimp only at hSw); go_simp; try with_reducible rfl)
            try simp only [Act.put, List.getElem_toArray, List.getElem_cons_zero, List.getElem_cons_succ, List.setIfInBounds_toArray, List.set_cons_zero, List.set_cons_succ]
            refine wpAnyH_take (i := 5) (oi := _) (v := ?_) rfl (by kernel_rfl) (by kernel_rfl) (by kernel_rfl) (fun _ _ _ h => h) (Or.inl ⟨by rfl, ?_⟩) (by assumption) ?_
            rotate_left
            · (intro w hSw; (try dsimp only at hSw); go_simp; try with_reducible rfl)
            try simp only [Act.put, List.getElem_toArray, List.getElem_cons_zero, List.getElem_cons_succ, List.setIfInBounds_toArray, List.set_cons_zero, List.set_cons_succ]
            refine wpAnyH_take (i := 6) (oi := _) (v := ?_) rfl (by kernel_rfl) (by kernel_rfl) (by kernel_rfl) (fun _ _ _ h => h) (Or.inl ⟨by rfl, ?_⟩) (by assumption) ?_
            rotate_left
            · (intro w hSw; (try dsimp only at hSw); go_simp; try with_reducible rfl)
            try simp only [Act.put, List.getElem_toArray, List.getElem_cons_zero, List.getElem_cons_succ, List.setIfInBounds_toArray, List.set_cons_zero, List.set_cons_succ]
            refine wpAnyH_take (i := 7) (oi := _) (v := ?_) rfl (by kernel_rfl) (by kernel_rfl) (by kernel_rfl) (fun _ _ _ h => h) (Or.inl ⟨by rfl, ?_⟩) (by assumption) ?_
            rotate_left
            · (intro w hSw; (try dsimp only at hSw); go_simp; try with_reducible rfl)
            try simp only [Act.put, List.getElem_toArray, List.getElem_cons_zero, List.getElem_cons_succ, List.setIfInBounds_toArray, List.set_cons_zero, List.set_cons_succ]
            refine wpAnyH_take (i := 8) (oi := _) (v := ?_) rfl (by kernel_rfl) (by kernel_rfl) (by kernel_rfl) (fun _ _ _ h => h) (Or.inl ⟨by rfl, ?_⟩) (by assumption) ?_
            rotate_left
            · (intro w hSw; (try dsimp only at hSw); go_simp; try with_reducible rfl)
            try simp only [Act.put, List.getElem_toArray, List.getElem_cons_zero, List.getElem_cons_succ, List.setIfInBounds_toArray, List.set_cons_zero, List.set_cons_succ]
            refine wpAnyH_take (i := 9) (oi := _) (v := ?_) rfl (by kernel_rfl) (by kernel_rfl) (by kernel_rfl) (fun _ _ _ h => h) (Or.inl ⟨by rfl, ?_⟩) (by assumption) ?_
            rotate_left
            · (intro w hSw; (try dsimp only at hSw); go_simp; try with_reducible rfl)
            try simp only [Act.put, List.getElem_toArray, List.getElem_cons_zero, List.getElem_cons_succ, List.setIfInBounds_toArray, List.set_cons_zero, List.set_cons_succ]
            refine wpAnyH_take (i := 10) (oi := _) (v := ?_) rfl (by kernel_rfl) (by kernel_rfl) (by kernel_rfl) (fun _ _ _ h => h) (Or.inl ⟨by rfl, ?_⟩) (by assumption) ?_
            rotate_left
            · (intro w hSw; (try dsimp only at hSw); go_simp; try with_reducible rfl)
            try simp only [Act.put, List.getElem_toArray, List.getElem_cons_zero, List.getElem_cons_succ, List.setIfInBounds_toArray, List.set_cons_zero, List.set_cons_succ]
            refine wpAnyH_take (i := 11) (oi := _) (v := ?_) rfl (by kernel_rfl) (by kernel_rfl) (by kernel_rfl) (fun _ _ _ h => h) (Or.inl ⟨by rfl, ?_⟩) (by assumption) ?_
            rotate_left
            · (intro w hSw; (try dsimp only at hSw); go_simp; try with_reducible rfl)
            try simp only [Act.put, List.getElem_toArray, List.getElem_cons_zero, List.getElem_cons_succ, List.setIfInBounds_toArray, List.set_cons_zero, List.set_cons_succ]
            refine wpAnyH_ready (rs := [12]) (by kernel_rfl) (by simp) ?_
            refine AllReadyH.cons (o := _) rfl (fun K hK => ?_) AllReadyH.nil
            go_simp
            refine (HY.out.2 _ (BX5.out.trans (Below.mono (Below.drew (Below.refl _ _)) BX5.out.size))).mono ?_
            rintro e wc ⟨V2, rfl, ho2, hb⟩
            have HFU := Lib.hid ((Below.drew (Below.refl _ _) : Below w5.heap.size w5 _).trans (hb.mono (Below.drew (Below.refl _ _) : Below w5.heap.size w5 _).size))
            have HBC := Lib.hid hb
            have HO2 := Lib.hid ho2
            clear hb ho2
            go_wp2_with fail
            refine hK.out _ _ (qb_written (QL.full (qb_last (by assumption)) HLW.out HLO5.out HBC.out)) (fun hHeld => ?_)
            clear hK K
            try simp only [Act.put, List.getElem_toArray, List.getElem_cons_zero, List.getElem_cons_succ, List.setIfInBounds_toArray, List.set_cons_zero, List.set_cons_succ]
            refine wpAnyH_ready (rs := [13]) (by kernel_rfl) (by simp) ?_
            refine AllReadyH.cons (o := _) rfl (fun K hK => ?_) AllReadyH.nil
            refine step_spots rfl _ _ rfl lo _ _ V2 OUT (spP S.defs mp) rfl rfl (HO5.out.low HFU.out) HO2.out HLN.out (Nat.le_trans HLO5.out HFU.out.size) ?_
            intro V3 wd ho3 hg3
            have HO3 := Lib.hid ho3
            have HG3 := Lib.hid hg3
            clear ho3 hg3
            refine hK.out _ _ (qb_written (QL.grown (qb_last (by assumption)) HLW.out HNE.out HLO5.out HG3.out)) (fun hHeld => ?_)
            clear hK K
            try simp only [Act.put, List.getElem_toArray, List.getElem_cons_zero, List.getElem_cons_succ, List.setIfInBounds_toArray, List.set_cons_zero, List.set_cons_succ]
            refine wpAnyH_take (i := 14) (oi := _) (v := ?_) rfl (by kernel_rfl) (by kernel_rfl) (by kernel_rfl) (fun _ _ _ h => h) (Or.inl ⟨by rfl, ?_⟩) (by assumption) ?_
            rotate_left
            · (intro w hSw; (try dsimp only at hSw); go_simp; try with_reducible rfl)
            try simp only [Act.put, List.getElem_toArray, List.getElem_cons_zero, List.getElem_cons_succ, List.setIfInBounds_toArray, List.set_cons_zero, List.set_cons_succ]
            refine wpAnyH_done (by kernel_rfl) ?_ _
            have HD := Lib.hid (qb_held hHeld)
            clear hHeld
            have X7 := Lib.hid (X5.out.nextL HD.out HLS.out.1 HLS.out.2.1 HLS.out.2.2.1)
            have D7 := Lib.hid ((HD.out.block _ HLS.out.2.2.2).trans D5.out)
            have HL7 := Lib.hid (Nat.le_trans HLO5.out HD.out.size)
            have H67 := Lib.hid (H65.out.trans HD.out)
            clear HE HLW HNE X5 BX5 D5 HD H65 HFU HO2 HO5 HVL Y5 B5f
            go_wp2_with fail
            go_roundg g
            case measure => omega
            case rel => exact ⟨q + 1, by omega, by go_num, Blk.Aside.intro ⟨X7.out, D7.out, by rw [HFS.out]; exact HO3.out, HL7.out, H67.out⟩⟩
end Go.Proofs.YtcfdfgbobnocnaaGreatDoor
