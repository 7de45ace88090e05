/- The page's examples. -/
import Derived.Test.YtcfdfgbobnocnaaGreatDoorLtRef4
import Derived.Test.YtcfdfgbobnocnaaGreatDoorVRGood
import Derived.Test.YtcfdfgbobnocnaaGreatDoorLtSpots
namespace Go.Proofs.YtcfdfgbobnocnaaGreatDoor
open Go.RowKit

theorem qs_written {wz W : World} {a1 b1 a2 b2 a3 b3 a4 b4 a5 b5 a6 b6 a7 b7 a8 b8 a9 b9 a10 b10 : Nat} {v1 v2 v3 v4 v5 v6 v7 v8 v9 v10 : Value} (h : QI wz [(a1, b1, v1), (a2, b2, v2), (a3, b3, v3), (a4, b4, v4), (a5, b5, v5), (a6, b6, v6), (a7, b7, v7), (a8, b8, v8), (a9, b9, v9), (a10, b10, v10)] W) :
    W.cell? ⟨a1, b1, none⟩ = some v1 ∧ W.cell? ⟨a2, b2, none⟩ = some v2 ∧ W.cell? ⟨a3, b3, none⟩ = some v3 ∧ W.cell? ⟨a4, b4, none⟩ = some v4 ∧ W.cell? ⟨a5, b5, none⟩ = some v5 ∧ W.cell? ⟨a6, b6, none⟩ = some v6 ∧ W.cell? ⟨a7, b7, none⟩ = some v7 ∧ W.cell? ⟨a8, b8, none⟩ = some v8 ∧ W.cell? ⟨a9, b9, none⟩ = some v9 ∧ W.cell? ⟨a10, b10, none⟩ = some v10 ∧ QI wz [(a1, b1, v1), (a2, b2, v2), (a3, b3, v3), (a4, b4, v4), (a5, b5, v5), (a6, b6, v6), (a7, b7, v7), (a8, b8, v8), (a9, b9, v9), (a10, b10, v10)] W :=
  ⟨h.1 (a1, b1, v1) (by simp), h.1 (a2, b2, v2) (by simp), h.1 (a3, b3, v3) (by simp), h.1 (a4, b4, v4) (by simp), h.1 (a5, b5, v5) (by simp), h.1 (a6, b6, v6) (by simp), h.1 (a7, b7, v7) (by simp), h.1 (a8, b8, v8) (by simp), h.1 (a9, b9, v9) (by simp), h.1 (a10, b10, v10) (by simp), h⟩
theorem qs_held {wz W : World} {cs : List (Nat × Nat × Value)} {p1 p2 p3 p4 p5 p6 p7 p8 p9 p10 : Prop} (h : p1 ∧ p2 ∧ p3 ∧ p4 ∧ p5 ∧ p6 ∧ p7 ∧ p8 ∧ p9 ∧ p10 ∧ QI wz cs W) : Below wz.heap.size wz W := h.2.2.2.2.2.2.2.2.2.2.2
theorem qs_last {wz W : World} {cs : List (Nat × Nat × Value)} {p1 p2 p3 p4 p5 p6 p7 p8 p9 p10 : Prop} (h : p1 ∧ p2 ∧ p3 ∧ p4 ∧ p5 ∧ p6 ∧ p7 ∧ p8 ∧ p9 ∧ p10 ∧ QI wz cs W) : QI wz cs W := h.2.2.2.2.2.2.2.2.2.2
set_option maxRecDepth 100000 in
set_option maxHeartbeats 4000000 in
theorem samespots_any (XS : List PlT) (A B : Option Addr) (c d : Nat) (w : World) (hn : XS.length ≤ 9223372036854775807)
    (ha : ∀ (q : Nat) x, XS[q]? = some x → ∃ g o, A = some ⟨g, o, none⟩ ∧ g < w.heap.size ∧ ∀ (i : Nat) u, (spotC x)[i]? = some u → w.cell? ⟨g, o + q * 5 + i, none⟩ = some u)
    (hb : ∀ (q : Nat) x, XS[q]? = some x → ∃ g o, B = some ⟨g, o, none⟩ ∧ g < w.heap.size ∧ ∀ (i : Nat) u, (spotC x)[i]? = some u → w.cell? ⟨g, o + q * 5 + i, none⟩ = some u) :
    Calls Tryz.prog 10 #[.slice A XS.length c, .slice B XS.length d] w fun e w' => e = .returned (.bool true) ∧ Below w.heap.size w w' := by
  have HA := Lib.hid ha
  have HB := Lib.hid hb
  have e0 : ((XS.length : Int) != (XS.length : Int)) = false := by simp
  clear ha hb
  go_enter Tryz.func10, Tryz.ntmps10
  go_wp2_with fail
  clear e0
  go_loopg [5] XS.length (fun g i wx => ∃ q : Nat, q + g = XS.length ∧ i = .int .i64 q ∧ Aside (Below w.heap.size w wx))
  case atStart => exact ⟨0, by omega, rfl, Blk.Aside.intro (Below.refl _ _)⟩
  case round =>
    obtain ⟨q, hq, rfl, HX⟩ := hrel
    have BX := Lib.hid HX.out
    clear HX
    cases gk with
    | zero =>
      obtain rfl : q = XS.length := by omega
      go_wp2_with fail
      go_ret
      exact ⟨rfl, BX.out⟩
    | succ g =>
      have hqn : q < XS.length := by omega
      have hqn' : (q : Int) < (XS.length : Int) := by omega
      obtain ⟨x, hx⟩ : ∃ x, XS[q]? = some x := ⟨_, List.getElem?_eq_getElem hqn⟩
      obtain ⟨g1, o1, rfl, hl1, h1⟩ := HA.out q x hx
      obtain ⟨g2, o2, rfl, hl2, h2⟩ := HB.out q x hx
      have H1 := Lib.hid h1
      have H2 := Lib.hid h2
      have HL1 := Lib.hid hl1
      have HL2 := Lib.hid hl2
      have e1 : (x.v.ss.toList == x.v.ss.toList) = true := by simp
      have e2 : (x.tn.toList == x.tn.toList) = true := by simp
      have e3 : (x.tl == x.tl) = true := by simp
      have e4 : (x.tm == x.tm) = true := by simp
      have e5 : (x.has == x.has) = true := by simp
      clear hx h1 h2 hl1 hl2
      go_wp2_with fail
      have HE : Hid (QI wr [(g1, o1 + q * 5, (Value.string x.v.ss)), (g1, o1 + q * 5 + 1, (Value.string x.tn)), (g1, o1 + q * 5 + 2, (Value.int .i64 x.tl)), (g1, o1 + q * 5 + 3, (Value.int .i64 x.tm)), (g1, o1 + q * 5 + 4, (Value.bool x.has)), (g2, o2 + q * 5, (Value.string x.v.ss)), (g2, o2 + q * 5 + 1, (Value.string x.tn)), (g2, o2 + q * 5 + 2, (Value.int .i64 x.tl)), (g2, o2 + q * 5 + 3, (Value.int .i64 x.tm)), (g2, o2 + q * 5 + 4, (Value.bool x.has))] wr) := Lib.hid (by
        have r10 := (BX.out.cell (p := ⟨g1, o1 + q * 5 + 0, none⟩) HL1.out).trans (H1.out 0 _ rfl)
        have r11 := (BX.out.cell (p := ⟨g1, o1 + q * 5 + 1, none⟩) HL1.out).trans (H1.out 1 _ rfl)
        have r12 := (BX.out.cell (p := ⟨g1, o1 + q * 5 + 2, none⟩) HL1.out).trans (H1.out 2 _ rfl)
        have r13 := (BX.out.cell (p := ⟨g1, o1 + q * 5 + 3, none⟩) HL1.out).trans (H1.out 3 _ rfl)
        have r14 := (BX.out.cell (p := ⟨g1, o1 + q * 5 + 4, none⟩) HL1.out).trans (H1.out 4 _ rfl)
        have r20 := (BX.out.cell (p := ⟨g2, o2 + q * 5 + 0, none⟩) HL2.out).trans (H2.out 0 _ rfl)
        have r21 := (BX.out.cell (p := ⟨g2, o2 + q * 5 + 1, none⟩) HL2.out).trans (H2.out 1 _ rfl)
        have r22 := (BX.out.cell (p := ⟨g2, o2 + q * 5 + 2, none⟩) HL2.out).trans (H2.out 2 _ rfl)
        have r23 := (BX.out.cell (p := ⟨g2, o2 + q * 5 + 3, none⟩) HL2.out).trans (H2.out 3 _ rfl)
        have r24 := (BX.out.cell (p := ⟨g2, o2 + q * 5 + 4, none⟩) HL2.out).trans (H2.out 4 _ rfl)
        refine ⟨fun p hp => ?_, Below.refl _ _⟩
        simp only [List.mem_cons, List.not_mem_nil, or_false] at hp
        rcases hp with rfl | rfl | rfl | rfl | rfl | rfl | rfl | rfl | rfl | rfl <;> assumption)
      have HL : Hid (∀ p, p ∈ [(g1, o1 + q * 5, (Value.string x.v.ss)), (g1, o1 + q * 5 + 1, (Value.string x.tn)), (g1, o1 + q * 5 + 2, (Value.int .i64 x.tl)), (g1, o1 + q * 5 + 3, (Value.int .i64 x.tm)), (g1, o1 + q * 5 + 4, (Value.bool x.has)), (g2, o2 + q * 5, (Value.string x.v.ss)), (g2, o2 + q * 5 + 1, (Value.string x.tn)), (g2, o2 + q * 5 + 2, (Value.int .i64 x.tl)), (g2, o2 + q * 5 + 3, (Value.int .i64 x.tm)), (g2, o2 + q * 5 + 4, (Value.bool x.has))] → p.1 < wr.heap.size) := Lib.hid (fun p hp => by
        have l1 := Nat.lt_of_lt_of_le HL1.out BX.out.size
        have l2 := Nat.lt_of_lt_of_le HL2.out BX.out.size
        simp only [List.mem_cons, List.not_mem_nil, or_false] at hp
        rcases hp with rfl | rfl | rfl | rfl | rfl | rfl | rfl | rfl | rfl | rfl <;> assumption)
      refine wp_region_held_drew (S := (fun w' => w'.cell? ⟨g1, o1 + q * 5, none⟩ = some (Value.string x.v.ss) ∧ w'.cell? ⟨g1, o1 + q * 5 + 1, none⟩ = some (Value.string x.tn) ∧ w'.cell? ⟨g1, o1 + q * 5 + 2, none⟩ = some (Value.int .i64 x.tl) ∧ w'.cell? ⟨g1, o1 + q * 5 + 3, none⟩ = some (Value.int .i64 x.tm) ∧ w'.cell? ⟨g1, o1 + q * 5 + 4, none⟩ = some (Value.bool x.has) ∧ w'.cell? ⟨g2, o2 + q * 5, none⟩ = some (Value.string x.v.ss) ∧ w'.cell? ⟨g2, o2 + q * 5 + 1, none⟩ = some (Value.string x.tn) ∧ w'.cell? ⟨g2, o2 + q * 5 + 2, none⟩ = some (Value.int .i64 x.tl) ∧ w'.cell? ⟨g2, o2 + q * 5 + 3, none⟩ = some (Value.int .i64 x.tm) ∧ w'.cell? ⟨g2, o2 + q * 5 + 4, none⟩ = some (Value.bool x.has) ∧ QI wr [(g1, o1 + q * 5, (Value.string x.v.ss)), (g1, o1 + q * 5 + 1, (Value.string x.tn)), (g1, o1 + q * 5 + 2, (Value.int .i64 x.tl)), (g1, o1 + q * 5 + 3, (Value.int .i64 x.tm)), (g1, o1 + q * 5 + 4, (Value.bool x.has)), (g2, o2 + q * 5, (Value.string x.v.ss)), (g2, o2 + q * 5 + 1, (Value.string x.tn)), (g2, o2 + q * 5 + 2, (Value.int .i64 x.tl)), (g2, o2 + q * 5 + 3, (Value.int .i64 x.tm)), (g2, o2 + q * 5 + 4, (Value.bool x.has))] w')) (by kernel_rfl) (qs_written (HE.out.next HL.out (Below.drew (Below.refl _ _)))) (fun hHeld => ?_)
      refine wpAnyH_take (i := 0) (oi := _) (v := ?_) rfl (by kernel_rfl) (by kernel_rfl) (by kernel_rfl) (fun _ _ _ h => h) (Or.inl ⟨by rfl, ?_⟩) (by assumption) ?_
      rotate_left
      · (intro w hSw; (try dsimp only at hSw); go_simp; try with_reducible rfl)
      try simp only [Act.put, List.getElem_toArray, List.getElem_cons_zero, List.setIfInBounds_toArray, List.set_cons_zero, List.set_cons_succ]
      refine wpAnyH_take (i := 1) (oi := _) (v := ?_) rfl (by kernel_rfl) (by kernel_rfl) (by kernel_rfl) (fun _ _ _ h => h) (Or.inl ⟨by rfl, ?_⟩) (by assumption) ?_
      rotate_left
      · (intro w hSw; (try dsimp only at hSw); go_simp; try with_reducible rfl)
      try simp only [Act.put, List.getElem_toArray, List.getElem_cons_zero, List.getElem_cons_succ, List.setIfInBounds_toArray, List.set_cons_zero, List.set_cons_succ]
      refine wpAnyH_take (i := 2) (oi := _) (v := ?_) rfl (by kernel_rfl) (by kernel_rfl) (by kernel_rfl) (fun _ _ _ h => h) (Or.inl ⟨by rfl, ?_⟩) (by assumption) ?_
      rotate_left
      · (intro w hSw; (try dsimp only at hSw); go_simp; try with_reducible rfl)
      try simp only [Act.put, List.getElem_toArray, List.getElem_cons_zero, List.getElem_cons_succ, List.setIfInBounds_toArray, List.set_cons_zero, List.set_cons_succ]
      refine wpAnyH_take (i := 3) (oi := _) (v := ?_) rfl (by kernel_rfl) (by kernel_rfl) (by kernel_rfl) (fun _ _ _ h => h) (Or.inl ⟨by rfl, ?_⟩) (by assumption) ?_
      rotate_left
      · (intro w hSw; (try dsimp only at hSw); go_simp; try with_reducible rfl)
      try simp only [Act.put, List.getElem_toArray, List.getElem_cons_zero, List.getElem_cons_succ, List.setIfInBounds_toArray, List.set_cons_zero, List.set_cons_succ]
      refine wpAnyH_take (i := 4) (oi := _) (v := ?_) rfl (by kernel_rfl) (by kernel_rfl) (by kernel_rfl) (fun _ _ _ h => h) (Or.inl ⟨by rfl, ?_⟩) (by assumption) ?_
      rotate_left
      · (intro w hSw; (try dsimp only at hSw); go_simp; try with_reducible rfl)
      try simp only [Act.put, List.getElem_toArray, List.getElem_cons_zero, List.getElem_cons_succ, List.setIfInBounds_toArray, List.set_cons_zero, List.set_cons_succ]
      refine wpAnyH_take (i := 5) (oi := _) (v := ?_) rfl (by kernel_rfl) (by kernel_rfl) (by kernel_rfl) (fun _ _ _ h => h) (Or.inl ⟨by rfl, ?_⟩) (by assumption) ?_
      rotate_left
      · (intro w hSw; (try dsimp only at hSw); go_simp; try with_reducible rfl)
      try simp only [Act.put, List.getElem_toArray, List.getElem_cons_zero, List.getElem_cons_succ, List.setIfInBounds_toArray, List.set_cons_zero, List.set_cons_succ]
      refine wpAnyH_take (i := 6) (oi := _) (v := ?_) rfl (by kernel_rfl) (by kernel_rfl) (by kernel_rfl) (fun _ _ _ h => h) (Or.inl ⟨by rfl, ?_⟩) (by assumption) ?_
      rotate_left
      · (intro w hSw; (try dsimp only at hSw); go_simp; try with_reducible rfl)
      try simp only [Act.put, List.getElem_toArray, List.getElem_cons_zero, List.getElem_cons_succ, List.setIfInBounds_toArray, List.set_cons_zero, List.set_cons_succ]
      refine wpAnyH_take (i := 7) (oi := _) (v := ?_) rfl (by kernel_rfl) (by kernel_rfl) (by kernel_rfl) (fun _ _ _ h => h) (Or.inl ⟨by rfl, ?_⟩) (by assumption) ?_
      rotate_left
      · (intro w hSw; (try dsimp only at hSw); go_simp; try with_reducible rfl)
      try simp only [Act.put, List.getElem_toArray, List.getElem_cons_zero, List.getElem_cons_succ, List.setIfInBounds_toArray, List.set_cons_zero, List.set_cons_succ]
      refine wpAnyH_take (i := 8) (oi := _) (v := ?_) rfl (by kernel_rfl) (by kernel_rfl) (by kernel_rfl) (fun _ _ _ h => h) (Or.inl ⟨by rfl, ?_⟩) (by assumption) ?_
      rotate_left
      · (intro w hSw; (try dsimp only at hSw); go_simp; try with_reducible rfl)
      try simp only [Act.put, List.getElem_toArray, List.getElem_cons_zero, List.getElem_cons_succ, List.setIfInBounds_toArray, List.set_cons_zero, List.set_cons_succ]
      refine wpAnyH_done (by kernel_rfl) ?_ _
      have HD := Lib.hid (qs_held hHeld)
      clear hHeld
      have B5 := Lib.hid (BX.out.trans (HD.out.mono BX.out.size))
      clear HE HL HD BX H1 H2
      go_wp2_with fail
      go_roundg g
      case measure => omega
      case rel => exact ⟨q + 1, by omega, by go_num, Blk.Aside.intro B5.out⟩
set_option maxRecDepth 100000 in
set_option maxHeartbeats 4000000 in
theorem rRight_any (S : SchT) (n : ByteArray) (l m : Int) (v : VT) (hv : sizeV v ≤ 9000) (c0 c1 c2 : Value) (A3 A4 : Option Addr) (k3 k4 : Nat) (w : World) (B : Nat) (hn : n.size ≤ 9223372036854775807) (hB : B ≤ w.heap.size) (hS : TS w (fun b => b < B) (encSch S) [c0, c1, c2]) (hV : TS w (fun b => b < B) (encV v) [.int .i64 v.kd, .int .i64 v.nn, .string v.ss, .slice A3 v.ls.len k3, .slice A4 v.ms.len k4]) :
    Calls Tryz.prog 8 #[.agg #[c0, c1, c2], .agg #[.string n, .int .i64 l, .int .i64 m], .agg #[.int .i64 v.kd, .int .i64 v.nn, .string v.ss, .slice A3 v.ls.len k3, .slice A4 v.ms.len k4]] w (SaysB (G S.defs ⟨n, l, m, false, v⟩) w) := by
  have RT := Lib.hid (fun wx => rtright_any n l m wx hn)
  have GV := Lib.hid (fun (wx : World) (hb : Below w.heap.size w wx) => rgoodv_any v hv _ _ _ _ _ wx B (Nat.le_trans hB hb.size) (ts_vat (TS.low (hb.mono hB) hV)))
  have RR := Lib.hid (fun (wx : World) (hb : Below w.heap.size w wx) => rright_any S _ n l m v true c0 c1 c2 A3 A4 k3 k4 wx B (Nat.le_refl _) hn (Nat.le_trans hB hb.size) (TS.low (hb.mono hB) hS) (TS.low (hb.mono hB) hV))
  obtain ⟨AS, k, e, _⟩ := sch_cells hS
  injection e with e0 e
  injection e with e1 e
  injection e with e2 e
  subst e0 e1 e2
  have X0 := Lib.hid (B3.start w #[.slice AS S.defs.length k, .string S.query, .string S.mutation] #[.string n, .int .i64 l, .int .i64 m] #[.int .i64 v.kd, .int .i64 v.nn, .string v.ss, .slice A3 v.ls.len k3, .slice A4 v.ms.len k4] 24 26 30)
  clear hB hS hV e
  generalize G S.defs ⟨n, l, m, false, v⟩ = GP at RR ⊢
  go_enter Tryz.func8, Tryz.ntmps8
  go_upto_region 1 with fail
  generalize ((w.alloc (.cells #[.slice AS S.defs.length k, .string S.query, .string S.mutation] 24)).alloc (.cells #[.string n, .int .i64 l, .int .i64 m] 26)).alloc (.cells #[.int .i64 v.kd, .int .i64 v.nn, .string v.ss, .slice A3 v.ls.len k3, .slice A4 v.ms.len k4] 30) = w1 at X0 ⊢
  generalize w.heap.size + 1 + 1 = gv at X0 ⊢
  generalize w.heap.size + 1 = gt at X0 ⊢
  obtain ⟨y0, y1, y2⟩ := three_cells X0.out.b1
  go_wp2_with fail
  refine (RT.out _).mono ?_
  rintro e w2 ⟨rfl, hb⟩
  have X2 := Lib.hid (X0.out.next hb)
  clear hb y0 y1 y2 X0 RT
  generalize rightT n.data.toList l m = rt
  cases rt with
  | false =>
    go_wp2_with fail
    go_ret
    exact ⟨false, rfl, fun h => (by cases h), X2.out.low⟩
  | true =>
    obtain ⟨z0, z1, z2, z3, z4⟩ := five_box X2.out.b2
    go_wp2_with fail
    refine (GV.out _ X2.out.low).mono ?_
    rintro e w3 ⟨rfl, hb⟩
    have X3 := Lib.hid (X2.out.next hb)
    clear hb z0 z1 z2 z3 z4 X2 GV
    generalize fitV goodB v = gd
    cases gd with
    | false =>
      go_wp2_with fail
      go_ret
      exact ⟨false, rfl, fun h => (by cases h), X3.out.low⟩
    | true =>
      obtain ⟨x0, x1, x2⟩ := three_cells X3.out.b0
      obtain ⟨y0, y1, y2⟩ := three_cells X3.out.b1
      obtain ⟨z0, z1, z2, z3, z4⟩ := five_box X3.out.b2
      go_wp2_with fail
      refine (RR.out _ X3.out.low).mono ?_
      rintro e w4 ⟨r, rfl, hG, hb⟩
      have X4 := Lib.hid (X3.out.next hb)
      have HG := Lib.hid hG
      clear hb hG x0 x1 x2 y0 y1 y2 z0 z1 z2 z3 z4 X3 RR
      go_wp2_with fail
      go_ret
      exact ⟨r, rfl, HG.out, X4.out.low⟩
end Go.Proofs.YtcfdfgbobnocnaaGreatDoor
namespace Go.Proofs.YtcfdfgbobnocnaaGreatDoor
open Go.RowKit
attribute [local go_sem] Oper.semAt_some

theorem leaf_ts {w : World} {P : Nat → Prop} (k n : Int) (s : ByteArray) (hs : s.size ≤ 9223372036854775807) : TS w P (encV (.mk k n s .nil .nil)) [.int .i64 k, .int .i64 n, .string s, .slice none 0 0, .slice none 0 0] :=
  vp_ts _ _ _ _ _ _ (by unfold VP; exact ⟨rfl, rfl, rfl, hs, ⟨none, 0, rfl, by simp [VL.len], by unfold LP; trivial⟩, none, 0, rfl, by simp [VM.len], by unfold MP; trivial⟩)
theorem leaf_vp {w : World} {P : Nat → Prop} (k n : Int) (s : ByteArray) (hs : s.size ≤ 9223372036854775807) : VP w P (.mk k n s .nil .nil) (.int .i64 k) (.int .i64 n) (.string s) (.slice none 0 0) (.slice none 0 0) := by
  unfold VP; exact ⟨rfl, rfl, rfl, hs, ⟨none, 0, rfl, by simp [VL.len], by unfold LP; trivial⟩, none, 0, rfl, by simp [VM.len], by unfold MP; trivial⟩
theorem list_ts {w : World} {P : Nat → Prop} {g : Nat} {t : TypeId} (k n : Int) (s : ByteArray) (hs : s.size ≤ 9223372036854775807) (hg : P g) (h : w.heap[g]? = some (.cells #[.int .i64 k, .int .i64 n, .string s, .slice none 0 0, .slice none 0 0] t (0, 0))) :
    TS w P (encV (.mk 6 0 ⟨#[]⟩ (.cons (.mk k n s .nil .nil) .nil) .nil)) [.int .i64 6, .int .i64 0, .string ⟨#[]⟩, .slice (some ⟨g, 0, none⟩) 1 1, .slice none 0 0] :=
  vp_ts _ _ _ _ _ _ (by
    have hl : LP w P (.cons (.mk k n s .nil .nil) .nil) (some ⟨g, 0, none⟩) 0 := by
      unfold LP
      refine ⟨⟨g, 0, _, _, _, _, _, rfl, hg, ?_, leaf_vp k n s hs⟩, by unfold LP; trivial⟩
      exact five_box h
    unfold VP
    exact ⟨rfl, rfl, rfl, by decide, ⟨some ⟨g, 0, none⟩, 1, rfl, by simp [VL.len], hl⟩, none, 0, rfl, by simp [VM.len], by unfold MP; trivial⟩)
def S00 : SchT := ⟨[], ⟨#[]⟩, ⟨#[]⟩⟩
theorem sch0_ts {w : World} {P : Nat → Prop} : TS w P (encSch S00) [.slice none 0 0, .string ⟨#[]⟩, .string ⟨#[]⟩] := by
  unfold encSch S00
  simp only [TS, TP]
  exact ⟨_, _, rfl, ⟨none, 0, rfl, by simp [rowOf, TrL.len], by simp [rowOf, RowT]⟩, _, _, rfl, ⟨rfl, Nat.zero_le _⟩, _, _, rfl, ⟨rfl, Nat.zero_le _⟩, rfl⟩
def nInt : ByteArray := ⟨#[73, 110, 116]⟩
def vOne : VT := .mk 2 1 ⟨#[]⟩ .nil .nil
def vLst : VT := .mk 6 0 ⟨#[]⟩ (.cons vOne .nil) .nil
def vVar : VT := .mk 8 0 ⟨#[97]⟩ .nil .nil
def vVars : VT := .mk 6 0 ⟨#[]⟩ (.cons vVar .nil) .nil
theorem all1 : allP [] ⟨nInt, 2, 0, false, vOne⟩ = [⟨nInt, 2, 0, false, vOne⟩, ⟨nInt, 1, 0, false, vOne⟩, ⟨nInt, 0, 0, false, vOne⟩] := by kernel_rfl
theorem all2 : allP [] ⟨nInt, 2, 0, false, vLst⟩ = [⟨nInt, 2, 0, false, vLst⟩, ⟨nInt, 1, 0, false, vOne⟩, ⟨nInt, 0, 0, false, vOne⟩] := by kernel_rfl
theorem all3 : allP [] ⟨nInt, 2, 0, true, vVars⟩ = [⟨nInt, 2, 0, true, vVars⟩, ⟨nInt, 1, 0, false, vVar⟩] := by kernel_rfl
theorem right1 : rightL [] ⟨nInt, 2, 0, false, vOne⟩ = true := by kernel_rfl
theorem right2 : rightL [] ⟨nInt, 2, 0, false, vLst⟩ = false := by kernel_rfl
theorem slim00 : SlimS S00 := ⟨by simp [S00], fun d h => by simp [S00] at h⟩
theorem sp_awake (w : World) (g : Nat) (t : TypeId) (hg : w.heap[g]? = some (.cells #[.int .i64 8, .int .i64 0, .string ⟨#[97]⟩, .slice none 0 0, .slice none 0 0] t (0, 0))) :
    Calls Tryz.prog 11 #[.agg #[.slice none 0 0, .string ⟨#[]⟩, .string ⟨#[]⟩], .agg #[.string nInt, .int .i64 2, .int .i64 0], .bool true, .agg #[.int .i64 6, .int .i64 0, .string ⟨#[]⟩, .slice (some ⟨g, 0, none⟩) 1 1, .slice none 0 0]] w fun e w' => ∃ b c, e = .returned (.slice (some ⟨b, 0, none⟩) 1 c) ∧ (w'.cell? ⟨b, 0, none⟩ = some (.string ⟨#[97]⟩) ∧ w'.cell? ⟨b, 2, none⟩ = some (.int .i64 1) ∧ w'.cell? ⟨b, 4, none⟩ = some (.bool false)) ∧ Below w.heap.size w w' := by
  have hlt := (Array.getElem?_eq_some_iff.1 hg).1
  refine (spots_any S00 nInt 2 0 true vVars _ _ _ _ _ _ _ w w.heap.size (Nat.le_refl _) slim00 _ rfl [nInt] (by decide) ?_ ?_ (by decide) sch0_ts (list_ts (g := g) 8 0 ⟨#[97]⟩ (by decide) hlt hg)).mono ?_
  · show ∀ x, x ∈ allP [] ⟨nInt, 2, 0, true, vVars⟩ → _
    rw [all3]
    intro x hx
    simp at hx
    rcases hx with rfl | rfl <;> exact ⟨by simp, by decide, by decide⟩
  · show (allP [] ⟨nInt, 2, 0, true, vVars⟩).length ≤ _
    rw [all3]
    decide
  · rintro e w' ⟨V, rfl, ⟨b, hb, ho⟩, hlow⟩
    change w'.ownsRow b 42 5 V (spotsOf (allP [] ⟨nInt, 2, 0, true, vVars⟩)).length ((spotsOf (allP [] ⟨nInt, 2, 0, true, vVars⟩)).flatMap spotC) at ho
    rw [all3] at ho
    obtain ⟨b', c, rfl⟩ := ownsRow_succ (k := 0) ho
    have hc := ho.cells (g := b') rfl
    refine ⟨b', c, rfl, ⟨?_, ?_, ?_⟩, hlow⟩
    · have := hc 0 _ rfl
      rw [add_at] at this
      simpa [vVar, VT.ss] using this
    · have := hc 2 _ rfl
      rw [add_at] at this
      simpa using this
    · have := hc 4 _ rfl
      rw [add_at] at this
      simpa using this
theorem ri_one (w : World) (hw : Laid5 w) :
    Calls Tryz.prog 13 #[.agg #[.slice none 0 0, .string ⟨#[]⟩, .string ⟨#[]⟩], .agg #[.string nInt, .int .i64 2, .int .i64 0], .agg #[.int .i64 2, .int .i64 1, .string ⟨#[]⟩, .slice none 0 0, .slice none 0 0]] w fun e w' => e = .returned (.bool true) ∧ Below w.heap.size w w' := by
  refine (right_any S00 nInt 2 0 vOne _ _ _ _ _ _ _ w w.heap.size (Nat.le_refl _) hw slim00 (by decide) _ rfl [nInt] (by decide) ?_ ?_ (by decide) sch0_ts (leaf_ts 2 1 ⟨#[]⟩ (by decide))).mono ?_
  · show ∀ x, x ∈ allP [] ⟨nInt, 2, 0, false, vOne⟩ → _
    rw [all1]
    intro x hx
    simp at hx
    rcases hx with rfl | rfl | rfl <;> exact ⟨by simp, by decide, by decide⟩
  · show (allP [] ⟨nInt, 2, 0, false, vOne⟩).length ≤ _
    rw [all1]
    decide
  · rintro e w' ⟨rfl, hb⟩
    exact ⟨by rw [show S00.defs = [] from rfl, right1], hb⟩
theorem ri_lst (w : World) (hw : Laid5 w) (g : Nat) (t : TypeId) (hg : w.heap[g]? = some (.cells #[.int .i64 2, .int .i64 1, .string ⟨#[]⟩, .slice none 0 0, .slice none 0 0] t (0, 0))) :
    Calls Tryz.prog 13 #[.agg #[.slice none 0 0, .string ⟨#[]⟩, .string ⟨#[]⟩], .agg #[.string nInt, .int .i64 2, .int .i64 0], .agg #[.int .i64 6, .int .i64 0, .string ⟨#[]⟩, .slice (some ⟨g, 0, none⟩) 1 1, .slice none 0 0]] w fun e w' => e = .returned (.bool false) ∧ Below w.heap.size w w' := by
  have hlt := (Array.getElem?_eq_some_iff.1 hg).1
  refine (right_any S00 nInt 2 0 vLst _ _ _ _ _ _ _ w w.heap.size (Nat.le_refl _) hw slim00 (by decide) _ rfl [nInt] (by decide) ?_ ?_ (by decide) sch0_ts (list_ts (g := g) 2 1 ⟨#[]⟩ (by decide) hlt hg)).mono ?_
  · show ∀ x, x ∈ allP [] ⟨nInt, 2, 0, false, vLst⟩ → _
    rw [all2]
    intro x hx
    simp at hx
    rcases hx with rfl | rfl | rfl <;> exact ⟨by simp, by decide, by decide⟩
  · show (allP [] ⟨nInt, 2, 0, false, vLst⟩).length ≤ _
    rw [all2]
    decide
  · rintro e w' ⟨rfl, hb⟩
    exact ⟨by rw [show S00.defs = [] from rfl, right2], hb⟩
set_option maxRecDepth 100000 in
set_option maxHeartbeats 8000000 in
theorem awake_any (w : World) (hw : Laid5 w) : Calls Tryz.prog 9 #[] w fun e w' => e = .returned (.bool true) ∧ Below w.heap.size w w' := by
  have HW := Lib.hid hw
  clear hw
  go_enter Tryz.func9, Tryz.ntmps9
  go_wp2_with fail
  have h0 : (((w.alloc (.cells #[.string ⟨#[73, 110, 116]⟩, .int .i64 2, .int .i64 0] 26)).alloc (.cells #[.int .i64 2, .int .i64 1, .string ⟨#[]⟩, .slice none 0 0, .slice none 0 0] 30)).alloc (.cells #[.int .i64 8, .int .i64 0, .string ⟨#[97]⟩, .slice none 0 0, .slice none 0 0] 30)).heap[w.heap.size]? = some (.cells #[.string ⟨#[73, 110, 116]⟩, .int .i64 2, .int .i64 0] 26 (0, 0)) := by
    rw [Below.heap_alloc _ _ _ (by simp; omega), Below.heap_alloc _ _ _ (by simp)]; exact heap_alloc_new _ _
  have h1 : (((w.alloc (.cells #[.string ⟨#[73, 110, 116]⟩, .int .i64 2, .int .i64 0] 26)).alloc (.cells #[.int .i64 2, .int .i64 1, .string ⟨#[]⟩, .slice none 0 0, .slice none 0 0] 30)).alloc (.cells #[.int .i64 8, .int .i64 0, .string ⟨#[97]⟩, .slice none 0 0, .slice none 0 0] 30)).heap[w.heap.size + 1]? = some (.cells #[.int .i64 2, .int .i64 1, .string ⟨#[]⟩, .slice none 0 0, .slice none 0 0] 30 (0, 0)) := by
    rw [Below.heap_alloc _ _ _ (by simp)]; exact heap_two _ _ _
  have h2 : (((w.alloc (.cells #[.string ⟨#[73, 110, 116]⟩, .int .i64 2, .int .i64 0] 26)).alloc (.cells #[.int .i64 2, .int .i64 1, .string ⟨#[]⟩, .slice none 0 0, .slice none 0 0] 30)).alloc (.cells #[.int .i64 8, .int .i64 0, .string ⟨#[97]⟩, .slice none 0 0, .slice none 0 0] 30)).heap[w.heap.size + 1 + 1]? = some (.cells #[.int .i64 8, .int .i64 0, .string ⟨#[97]⟩, .slice none 0 0, .slice none 0 0] 30 (0, 0)) := by
    have := heap_two (w.alloc (.cells #[.string ⟨#[73, 110, 116]⟩, .int .i64 2, .int .i64 0] 26)) (.cells #[.int .i64 2, .int .i64 1, .string ⟨#[]⟩, .slice none 0 0, .slice none 0 0] 30) (.cells #[.int .i64 8, .int .i64 0, .string ⟨#[97]⟩, .slice none 0 0, .slice none 0 0] 30)
    simpa using this
  have hb1 : Below w.heap.size w (((w.alloc (.cells #[.string ⟨#[73, 110, 116]⟩, .int .i64 2, .int .i64 0] 26)).alloc (.cells #[.int .i64 2, .int .i64 1, .string ⟨#[]⟩, .slice none 0 0, .slice none 0 0] 30)).alloc (.cells #[.int .i64 8, .int .i64 0, .string ⟨#[97]⟩, .slice none 0 0, .slice none 0 0] 30)) := (two_below w _ _).alloc (by simp; omega) _
  generalize ((w.alloc (.cells #[.string ⟨#[73, 110, 116]⟩, .int .i64 2, .int .i64 0] 26)).alloc (.cells #[.int .i64 2, .int .i64 1, .string ⟨#[]⟩, .slice none 0 0, .slice none 0 0] 30)).alloc (.cells #[.int .i64 8, .int .i64 0, .string ⟨#[97]⟩, .slice none 0 0, .slice none 0 0] 30) = w1 at h0 h1 h2 hb1 ⊢
  refine (sp_awake w1 (w.heap.size + 1 + 1) _ h2).mono ?_
  rintro e w2 ⟨b, c, rfl, ⟨p0, p2, p4⟩, hb2⟩
  have B2 := Lib.hid (hb1.trans (hb2.mono hb1.size))
  have H0 := Lib.hid ((hb2.block _ (Array.getElem?_eq_some_iff.1 h0).1).trans h0)
  have H1 := Lib.hid ((hb2.block _ (Array.getElem?_eq_some_iff.1 h1).1).trans h1)
  have HP := Lib.hid (And.intro p0 (And.intro p2 p4))
  clear h0 h1 h2 hb1 hb2 p0 p2 p4
  generalize w.heap.size + 1 + 1 = gv
  generalize w.heap.size + 1 = g1 at H1 ⊢
  generalize hg0 : w.heap.size = g0 at H0 ⊢
  have HG0 := Lib.hid hg0
  clear hg0
  obtain ⟨x0, x1, x2⟩ := three_cells H0.out
  obtain ⟨y0, y1, y2, y3, y4⟩ := five_box H1.out
  go_wp2_with fail
  refine (ri_one w2 (HW.out.below B2.out)).mono ?_
  rintro e w3 ⟨rfl, hb3⟩
  have B3 := Lib.hid (B2.out.trans (hb3.mono B2.out.size))
  have H0' := Lib.hid ((hb3.block _ (Array.getElem?_eq_some_iff.1 H0.out).1).trans H0.out)
  have H1' := Lib.hid ((hb3.block _ (Array.getElem?_eq_some_iff.1 H1.out).1).trans H1.out)
  have hbl := World.block_lt_of_cell? w2 _ HP.out.1
  have HP' := Lib.hid (And.intro ((hb3.cell (p := ⟨b, 0, none⟩) hbl).trans HP.out.1) (And.intro ((hb3.cell (p := ⟨b, 2, none⟩) hbl).trans HP.out.2.1) ((hb3.cell (p := ⟨b, 4, none⟩) hbl).trans HP.out.2.2)))
  clear x0 x1 x2 y0 y1 y2 y3 y4 hb3 hbl H0 H1 HP
  obtain ⟨x0, x1, x2⟩ := three_cells H0'.out
  obtain ⟨y0, y1, y2, y3, y4⟩ := five_box H1'.out
  go_wp2_with fail
  have h5 := heap_alloc_new w3 (.cells #[.int .i64 2, .int .i64 1, .string ⟨#[]⟩, .slice none 0 0, .slice none 0 0] 30)
  have hb4 := dbelow_new w3 (.cells #[.int .i64 2, .int .i64 1, .string ⟨#[]⟩, .slice none 0 0, .slice none 0 0] 30)
  refine (ri_lst _ (HW.out.below (B3.out.trans (hb4.mono B3.out.size))) w3.heap.size _ h5).mono ?_
  rintro e w5 ⟨rfl, hb5⟩
  have B5 := Lib.hid ((B3.out.trans (hb4.mono B3.out.size)).trans (hb5.mono (Nat.le_trans B3.out.size hb4.size)))
  have hb35 := hb4.trans (hb5.mono hb4.size)
  have hbl := World.block_lt_of_cell? w3 _ HP'.out.1
  have p0 := (hb35.cell (p := ⟨b, 0, none⟩) hbl).trans HP'.out.1
  have p2 := (hb35.cell (p := ⟨b, 2, none⟩) hbl).trans HP'.out.2.1
  have p4 := (hb35.cell (p := ⟨b, 4, none⟩) hbl).trans HP'.out.2.2
  clear x0 x1 x2 y0 y1 y2 y3 y4 h5 hb4 hb5 hb35 hbl H0' H1' HP'
  go_wp2_with fail
  go_ret
  exact ⟨rfl, B5.out⟩
end Go.Proofs.YtcfdfgbobnocnaaGreatDoor
