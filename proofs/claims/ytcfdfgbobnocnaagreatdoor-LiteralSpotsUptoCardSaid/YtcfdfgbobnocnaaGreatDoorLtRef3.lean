/- The document's right. (gen_ref3.py wrote it.) -/
import Derived.Test.YtcfdfgbobnocnaaGreatDoorLtRef2
namespace Go.Proofs.YtcfdfgbobnocnaaGreatDoor
open Go.RowKit

theorem ts_mat {w : World} {B : Nat} {v : VT} {A3 A4 : Option Addr} {k3 k4 : Nat} (hV : TS w (fun b => b < B) (encV v) [.int .i64 v.kd, .int .i64 v.nn, .string v.ss, .slice A3 v.ls.len k3, .slice A4 v.ms.len k4]) : MAt w B v.ms A4 0 := by
  have h := ts_vat hV
  obtain ⟨k, n, s, l, m⟩ := v
  unfold VAt at h
  obtain ⟨_, _, _, _, _, A', c', e, _, h6⟩ := h
  injection e with e1 _ _
  subst e1
  exact h6
/-- The three boxes of a call, while calls go on. -/
structure B3 (w : World) (gt gv : Nat) (o1 o2 o3 : Obj) (W : World) : Prop where
  low : Below w.heap.size w W
  b0 : W.heap[w.heap.size]? = some o1
  b1 : W.heap[gt]? = some o2
  b2 : W.heap[gv]? = some o3
theorem B3.next {w W W' : World} {gt gv : Nat} {o1 o2 o3 : Obj} (h : B3 w gt gv o1 o2 o3 W) (hb : Below W.heap.size W W') : B3 w gt gv o1 o2 o3 W' :=
  ⟨h.low.trans (hb.mono h.low.size), (hb.block _ (Array.getElem?_eq_some_iff.1 h.b0).1).trans h.b0, (hb.block _ (Array.getElem?_eq_some_iff.1 h.b1).1).trans h.b1, (hb.block _ (Array.getElem?_eq_some_iff.1 h.b2).1).trans h.b2⟩
theorem B3.start (w : World) (c0 c1 c2 : Array Value) (t0 t1 t2 : TypeId) : B3 w (w.heap.size + 1) (w.heap.size + 1 + 1) (.cells c0 t0 (0, 0)) (.cells c1 t1 (0, 0)) (.cells c2 t2 (0, 0)) (((w.alloc (.cells c0 t0)).alloc (.cells c1 t1)).alloc (.cells c2 t2)) := by
  refine ⟨(two_below w _ _).alloc (by simp; omega) _, ?_, ?_, ?_⟩
  · rw [Below.heap_alloc _ _ _ (by simp; omega), Below.heap_alloc _ _ _ (by simp)]; exact heap_alloc_new _ _
  · rw [Below.heap_alloc _ _ _ (by simp)]; exact heap_two _ _ _
  · have := heap_two (w.alloc (.cells c0 t0)) (.cells c1 t1) (.cells c2 t2)
    simpa using this
theorem qr_written {wz W : World} {a1 b1 a2 b2 a3 b3 a4 b4 a5 b5 a6 b6 a7 b7 a8 b8 a9 b9 a10 b10 a11 b11 a12 b12 : Nat} {v1 v2 v3 v4 v5 v6 v7 v8 v9 v10 v11 v12 : Value} (h : QI wz [(a1, b1, v1), (a2, b2, v2), (a3, b3, v3), (a4, b4, v4), (a5, b5, v5), (a6, b6, v6), (a7, b7, v7), (a8, b8, v8), (a9, b9, v9), (a10, b10, v10), (a11, b11, v11), (a12, b12, v12)] W) :
    W.cell? ⟨a1, b1, none⟩ = some v1 ∧ W.cell? ⟨a2, b2, none⟩ = some v2 ∧ W.cell? ⟨a3, b3, none⟩ = some v3 ∧ W.cell? ⟨a4, b4, none⟩ = some v4 ∧ W.cell? ⟨a5, b5, none⟩ = some v5 ∧ W.cell? ⟨a6, b6, none⟩ = some v6 ∧ W.cell? ⟨a7, b7, none⟩ = some v7 ∧ W.cell? ⟨a8, b8, none⟩ = some v8 ∧ W.cell? ⟨a9, b9, none⟩ = some v9 ∧ W.cell? ⟨a10, b10, none⟩ = some v10 ∧ W.cell? ⟨a11, b11, none⟩ = some v11 ∧ W.cell? ⟨a12, b12, none⟩ = some v12 ∧ QI wz [(a1, b1, v1), (a2, b2, v2), (a3, b3, v3), (a4, b4, v4), (a5, b5, v5), (a6, b6, v6), (a7, b7, v7), (a8, b8, v8), (a9, b9, v9), (a10, b10, v10), (a11, b11, v11), (a12, b12, v12)] W :=
  ⟨h.1 (a1, b1, v1) (by simp), h.1 (a2, b2, v2) (by simp), h.1 (a3, b3, v3) (by simp), h.1 (a4, b4, v4) (by simp), h.1 (a5, b5, v5) (by simp), h.1 (a6, b6, v6) (by simp), h.1 (a7, b7, v7) (by simp), h.1 (a8, b8, v8) (by simp), h.1 (a9, b9, v9) (by simp), h.1 (a10, b10, v10) (by simp), h.1 (a11, b11, v11) (by simp), h.1 (a12, b12, v12) (by simp), h⟩
theorem qr_held {wz W : World} {cs : List (Nat × Nat × Value)} {p1 p2 p3 p4 p5 p6 p7 p8 p9 p10 p11 p12 : Prop} (h : p1 ∧ p2 ∧ p3 ∧ p4 ∧ p5 ∧ p6 ∧ p7 ∧ p8 ∧ p9 ∧ p10 ∧ p11 ∧ p12 ∧ QI wz cs W) : Below wz.heap.size wz W := h.2.2.2.2.2.2.2.2.2.2.2.2.2
theorem qr_last {wz W : World} {cs : List (Nat × Nat × Value)} {p1 p2 p3 p4 p5 p6 p7 p8 p9 p10 p11 p12 : Prop} (h : p1 ∧ p2 ∧ p3 ∧ p4 ∧ p5 ∧ p6 ∧ p7 ∧ p8 ∧ p9 ∧ p10 ∧ p11 ∧ p12 ∧ QI wz cs W) : QI wz cs W := h.2.2.2.2.2.2.2.2.2.2.2.2
set_option maxRecDepth 100000 in
set_option maxHeartbeats 16000000 in
theorem rright_any (S : SchT) (N : Nat) : RightC S N := by
  induction N using Nat.strongRecOn with
  | ind N IH =>
  intro n l m v al c0 c1 c2 A3 A4 k3 k4 w B hm hn hB hS hV
  have RT := Lib.hid (fun wx => rtright_any n l m wx hn)
  have IT := Lib.hid (fun wx => ritem_any n l m wx hn)
  rw [itemV_eq] at IT
  have FI := Lib.hid (fun (wx : World) (hb : Below w.heap.size w wx) => rfind_any S n c0 c1 c2 wx B (Nat.le_trans hB hb.size) hn (TS.low (hb.mono hB) hS))
  have ONE := Lib.hid (fun (hi : itemB n l m = true) (wx : World) (hb : Below w.heap.size w wx) => IH (msr ⟨n, l - 1, m / 2, false, v⟩) (Nat.lt_of_lt_of_le (msr_item (hs := false) hi) hm) n (l - 1) (m / 2) v true c0 c1 c2 A3 A4 k3 k4 wx B (Nat.le_refl _) hn (Nat.le_trans hB hb.size) (TS.low (hb.mono hB) hS) (TS.low (hb.mono hB) hV))
  have ELS := Lib.hid (fun (x : VT) (hx : x ∈ v.ls.list) (E3 E4 : Option Addr) (j3 j4 : Nat) hT (wx : World) (hb : Below w.heap.size w wx) => IH (msr ⟨n, l - 1, m / 2, false, x⟩) (Nat.lt_of_lt_of_le (msr_el (n := n) (l := l) (m := m) (hs := false) hx) hm) n (l - 1) (m / 2) x false c0 c1 c2 E3 E4 j3 j4 wx B (Nat.le_refl _) hn (Nat.le_trans hB hb.size) (TS.low (hb.mono hB) hS) (TS.low (hb.mono hB) hT))
  obtain ⟨F3, f3, F4, f4, e, hss, ⟨hll, hL⟩, hml, hM⟩ := encv_cells hV
  simp only [List.cons.injEq, Value.slice.injEq, and_true, true_and] at e
  obtain ⟨⟨rfl, rfl⟩, rfl, rfl⟩ := e
  rw [encL_list] at hL
  rw [encM_list] at hM
  have hpos : 0 < msr ⟨n, l, m, false, v⟩ := Nat.lt_of_lt_of_le (by have : 0 < szV v := (by obtain ⟨k, n, s, l, m⟩ := v; rw [szV]; omega); show 0 < szV v * 8; omega) (msr_ge ⟨n, l, m, false, v⟩)
  have INP := Lib.hid (fun (ps : List VarT) (Ap : Option Addr) (cp : Nat) (wx : World) (hb : Below w.heap.size w wx) (hps : ps.length ≤ 9223372036854775807) (hR : RowT wx (fun b => b < B) (rowOf encVar ps) Ap) => rinput_any S (N - 1) (IH (N - 1) (by omega)) ps Ap cp v.ms A4 k4 c0 c1 c2 wx B (Nat.le_trans hB hb.size) hps hml (TS.low (hb.mono hB) hS) hR (RowT.below (hb.mono hB) hM) (MAt.below (hb.mono hB) v.ms A4 0 (ts_mat hV)) (fun y hy n' l' m' hs' => by have := msr_mem (n := n) (l := l) (m := m) (hs := false) (n' := n') (l' := l') (m' := m') (hs' := hs') hy; omega))
  have HL := Lib.hid hL
  have HB := Lib.hid hB
  have HLL := Lib.hid hll
  obtain ⟨AS, k, e, _⟩ := sch_cells hS
  injection e with e0 e
  injection e with e1 e
  injection e with e2 e
  subst e0 e1 e2
  have X0 := Lib.hid (B3.start w #[.slice AS S.defs.length k, .string S.query, .string S.mutation] #[.string n, .int .i64 l, .int .i64 m] #[.int .i64 v.kd, .int .i64 v.nn, .string v.ss, .slice A3 v.ls.len k3, .slice A4 v.ms.len k4] 24 26 30)
  have HLI := Lib.hid (VL.list_len v.ls)
  have G8 := Lib.hid (fun h => G_none (D := S.defs) (n := n) (l := l) (m := m) (hs := false) (v := v) h)
  have GL := Lib.hid (fun hi h7 => G_leaf (D := S.defs) (n := n) (l := l) (m := m) (hs := false) (v := v) hi h7)
  have G1 := Lib.hid (fun a hi h6 h => G_one (D := S.defs) (n := n) (l := l) (m := m) (hs := false) (v := v) a hi h6 h)
  have GE := Lib.hid (fun hi h6 h => G_els (D := S.defs) (n := n) (l := l) (m := m) (hs := false) (v := v) hi h6 h)
  have GM := Lib.hid (fun hi h7 h => G_map (D := S.defs) (n := n) (l := l) (m := m) (hs := false) (v := v) hi h7 h)
  clear IH hB hS hV hm hM hL e hpos hml hss hll
  generalize G S.defs ⟨n, l, m, false, v⟩ = GP at G8 GL G1 GE GM ⊢
  go_enter Tryz.func26, Tryz.ntmps26
  go_upto_region 1 with fail
  generalize ((w.alloc (.cells #[.slice AS S.defs.length k, .string S.query, .string S.mutation] 24)).alloc (.cells #[.string n, .int .i64 l, .int .i64 m] 26)).alloc (.cells #[.int .i64 v.kd, .int .i64 v.nn, .string v.ss, .slice A3 v.ls.len k3, .slice A4 v.ms.len k4] 30) = w1 at X0 ⊢
  generalize w.heap.size + 1 + 1 = gv at X0 ⊢
  generalize w.heap.size + 1 = gt at X0 ⊢
  obtain ⟨y0, y1, y2⟩ := three_cells X0.out.b1
  go_wp2_with fail
  refine (RT.out _).mono ?_
  rintro e w2 ⟨rfl, hb⟩
  have X2 := Lib.hid (X0.out.next hb)
  clear hb y0 y1 y2 X0 RT
  obtain ⟨rt, grt⟩ : ∃ b, rightT n.data.toList l m = b := ⟨_, rfl⟩
  rw [grt]
  have HSM : Hid (rt = true → 0 ≤ m ∧ m < 32) := Lib.hid (fun h => (right_small (grt.trans h)).2.2)
  clear grt
  obtain ⟨y0, y1, y2⟩ := three_cells X2.out.b1
  obtain ⟨z0, z1, z2, z3, z4⟩ := five_box X2.out.b2
  cases rt with
  | false =>
    go_wp2_with fail
    go_ret
    exact ⟨false, rfl, fun h => (by cases h), X2.out.low⟩
  | true =>
    obtain ⟨b8, g8⟩ : ∃ b, (v.kd == 8) = b := ⟨_, rfl⟩
    obtain ⟨b0, g0⟩ : ∃ b, (v.kd == 0) = b := ⟨_, rfl⟩
    have H8 : Hid (b8 = true ↔ v.kd = 8) := Lib.hid (by rw [← g8]; simp)
    have H0 : Hid (b0 = true ↔ v.kd = 0) := Lib.hid (by rw [← g0]; simp)
    cases b8 with
    | true =>
      go_wp2_with fail
      go_ret
      exact ⟨true, rfl, fun _ => G8.out (Or.inl (H8.out.1 (by trivial))), X2.out.low⟩
    | false =>
      cases b0 with
      | true =>
        have hsm := HSM.out rfl
        have ha := and_one hsm.1 hsm.2
        obtain ⟨r, hR⟩ : ∃ r, m % 2 = r := ⟨_, rfl⟩
        rw [hR] at ha
        have hr2 : r = 0 ∨ r = 1 := by omega
        clear hR
        rcases hr2 with rfl | rfl
        all_goals
          go_wp2_with fail
          go_ret
          exact ⟨_, rfl, fun _ => G8.out (Or.inr (H0.out.1 (by trivial))), X2.out.low⟩
      | false =>
        have a8 : ¬ (v.kd = 8 ∨ v.kd = 0) := fun h => h.elim (fun h => by cases H8.out.2 h) (fun h => by cases H0.out.2 h)
        clear H8 H0 G8
        have A8 := Lib.hid a8
        clear a8
        go_wp2_with fail
        refine (IT.out _).mono ?_
        rintro e w3 ⟨rfl, hb⟩
        have X3 := Lib.hid (X2.out.next hb)
        clear hb y0 y1 y2 z0 z1 z2 z3 z4 X2 IT g8 g0
        by_cases hi : itemB n l m = true
        · rw [if_pos hi]
          unfold yesT
          have ONE := Lib.hid (ONE.out hi)
          have G1 := Lib.hid (fun h6 h => G1.out A8.out hi h6 h)
          have GE := Lib.hid (fun h6 h => GE.out hi h6 h)
          clear hi GL GM INP FI A8
          go_upto_region 8 with fail
          have X4 := Lib.hid (X3.out.next (dbelow_new w3 (.cells #[.string n, .int .i64 (l - 1), .int .i64 (m / 2)] 26)))
          have I4 := Lib.hid (heap_alloc_new w3 (.cells #[.string n, .int .i64 (l - 1), .int .i64 (m / 2)] 26))
          generalize w3.alloc (.cells #[.string n, .int .i64 (l - 1), .int .i64 (m / 2)] 26) = w4 at X4 I4 ⊢
          generalize w3.heap.size = g9 at I4 ⊢
          clear X3
          obtain ⟨y0, y1, y2⟩ := three_cells I4.out
          obtain ⟨x0, x1, x2⟩ := three_cells X4.out.b0
          obtain ⟨z0, z1, z2, z3, z4⟩ := five_box X4.out.b2
          obtain ⟨b6, g6⟩ : ∃ b, (v.kd == 6) = b := ⟨_, rfl⟩
          have H6 : Hid (b6 = true ↔ v.kd = 6) := Lib.hid (by rw [← g6]; simp)
          have g6n : (v.kd != 6) = !b6 := by rw [← g6]; rfl
          cases b6 with
          | false =>
            cases al with
            | false =>
              go_wp2_with fail
              go_ret
              exact ⟨false, rfl, fun h => (by cases h), X4.out.low⟩
            | true =>
              go_wp2_with fail
              refine (ONE.out _ X4.out.low).mono ?_
              rintro e w5 ⟨r, rfl, hG, hb⟩
              have X5 := Lib.hid (X4.out.next hb)
              have HG := Lib.hid hG
              clear hb hG x0 x1 x2 y0 y1 y2 z0 z1 z2 z3 z4 X4 I4
              go_wp2_with fail
              go_ret
              exact ⟨r, rfl, fun h => G1.out (fun h => by cases H6.out.2 h) (HG.out h), X5.out.low⟩
          | true =>
            clear ONE G1
            go_wp2_with fail
            go_loopg [11] v.ls.len (fun g i wx => ∃ q : Nat, q + g = v.ls.len ∧ i = .int .i64 q ∧ Aside (B3 w gt gv (.cells #[.slice AS S.defs.length k, .string S.query, .string S.mutation] 24 (0, 0)) (.cells #[.string n, .int .i64 l, .int .i64 m] 26 (0, 0)) (.cells #[.int .i64 v.kd, .int .i64 v.nn, .string v.ss, .slice A3 v.ls.len k3, .slice A4 v.ms.len k4] 30 (0, 0)) wx ∧ wx.heap[g9]? = some (.cells #[.string n, .int .i64 (l - 1), .int .i64 (m / 2)] 26 (0, 0)) ∧ ∀ x, x ∈ v.ls.list.take q → G S.defs ⟨n, l - 1, m / 2, false, x⟩))
            case atStart => exact ⟨0, by omega, rfl, Blk.Aside.intro ⟨X4.out, I4.out, fun x hx => by simp at hx⟩⟩
            case round =>
              obtain ⟨q, hq, rfl, HX⟩ := hrel
              have XX := Lib.hid HX.out.1
              have II := Lib.hid HX.out.2.1
              have HI := Lib.hid HX.out.2.2
              have BX := Lib.hid XX.out.low
              clear HX X4 I4 x0 x1 x2 y0 y1 y2 z0 z1 z2 z3 z4
              obtain ⟨z0, z1, z2, z3, z4⟩ := five_box XX.out.b2
              cases gk with
              | zero =>
                obtain rfl : q = v.ls.len := by omega
                go_wp2_with fail
                go_ret
                exact ⟨true, rfl, fun _ => GE.out (H6.out.1 (by trivial)) (by have h := HI.out; rwa [List.take_of_length_le (by rw [HLI.out]; exact Nat.le_refl _)] at h), XX.out.low⟩
              | succ g =>
                have hll := HLL.out
                have hqn : q < v.ls.len := by omega
                have hqn' : (q : Int) < (v.ls.len : Int) := by omega
                obtain ⟨x, hx⟩ : ∃ x, v.ls.list[q]? = some x := ⟨_, List.getElem?_eq_getElem (by rw [HLI.out]; exact hqn)⟩
                obtain ⟨b, o, E3, j3, E4, j4, rfl, hb, ⟨c0, c1, c2, c3, c4⟩, hT⟩ := val_at HL.out hx
                have XR := Lib.hid (ELS.out x (List.mem_of_getElem? hx) E3 E4 j3 j4 hT)
                have HBL := Lib.hid (Nat.lt_of_lt_of_le hb HB.out)
                have HC := Lib.hid (And.intro c0 (And.intro c1 (And.intro c2 (And.intro c3 c4))))
                have HSN : Hid (G S.defs ⟨n, l - 1, m / 2, false, x⟩ → ∀ y, y ∈ v.ls.list.take (q + 1) → G S.defs ⟨n, l - 1, m / 2, false, y⟩) := Lib.hid (fun h y hy => by
                  rw [List.take_add_one, hx] at hy
                  rcases List.mem_append.1 hy with hy | hy
                  · exact HI.out y hy
                  · obtain rfl : y = x := by simpa using hy
                    exact h)
                clear hx hb hT c0 c1 c2 c3 c4 HI ELS
                go_wp2_with fail
                have HE : Hid (QI wr [(w.heap.size, 0, (Value.slice AS S.defs.length k)), (w.heap.size, 1, (Value.string S.query)), (w.heap.size, 2, (Value.string S.mutation)), (g9, 0, (Value.string n)), (g9, 1, (Value.int .i64 (l - 1))), (g9, 2, (Value.int .i64 (m / 2))), (gv, 3, (Value.slice (some ⟨b, o, none⟩) v.ls.len k3)), (b, o + q * 5, (Value.int .i64 x.kd)), (b, o + q * 5 + 1, (Value.int .i64 x.nn)), (b, o + q * 5 + 2, (Value.string x.ss)), (b, o + q * 5 + 3, (Value.slice E3 x.ls.len j3)), (b, o + q * 5 + 4, (Value.slice E4 x.ms.len j4))] wr) := Lib.hid (by
                  obtain ⟨x0, x1, x2⟩ := three_cells XX.out.b0
                  obtain ⟨i0, i1, i2⟩ := three_cells II.out
                  obtain ⟨s0, s1, s2, s3, s4⟩ := HC.out
                  have s0 := (BX.out.cell (p := ⟨b, o + q * 5, none⟩) HBL.out).trans s0
                  have s1 := (BX.out.cell (p := ⟨b, o + q * 5 + 1, none⟩) HBL.out).trans s1
                  have s2 := (BX.out.cell (p := ⟨b, o + q * 5 + 2, none⟩) HBL.out).trans s2
                  have s3 := (BX.out.cell (p := ⟨b, o + q * 5 + 3, none⟩) HBL.out).trans s3
                  have s4 := (BX.out.cell (p := ⟨b, o + q * 5 + 4, none⟩) HBL.out).trans s4
                  refine ⟨fun p hp => ?_, Below.refl _ _⟩
                  simp only [List.mem_cons, List.not_mem_nil, or_false] at hp
                  rcases hp with rfl | rfl | rfl | rfl | rfl | rfl | rfl | rfl | rfl | rfl | rfl | rfl <;> assumption)
                have HLW : Hid (∀ p, p ∈ [(w.heap.size, 0, (Value.slice AS S.defs.length k)), (w.heap.size, 1, (Value.string S.query)), (w.heap.size, 2, (Value.string S.mutation)), (g9, 0, (Value.string n)), (g9, 1, (Value.int .i64 (l - 1))), (g9, 2, (Value.int .i64 (m / 2))), (gv, 3, (Value.slice (some ⟨b, o, none⟩) v.ls.len k3)), (b, o + q * 5, (Value.int .i64 x.kd)), (b, o + q * 5 + 1, (Value.int .i64 x.nn)), (b, o + q * 5 + 2, (Value.string x.ss)), (b, o + q * 5 + 3, (Value.slice E3 x.ls.len j3)), (b, o + q * 5 + 4, (Value.slice E4 x.ms.len j4))] → p.1 < wr.heap.size) := Lib.hid (fun p hp => by
                  have l0 := (Array.getElem?_eq_some_iff.1 XX.out.b0).1
                  have l1 := (Array.getElem?_eq_some_iff.1 II.out).1
                  have l3 := (Array.getElem?_eq_some_iff.1 XX.out.b2).1
                  have l2 := Nat.lt_of_lt_of_le HBL.out BX.out.size
                  simp only [List.mem_cons, List.not_mem_nil, or_false] at hp
                  rcases hp with rfl | rfl | rfl | rfl | rfl | rfl | rfl | rfl | rfl | rfl | rfl | rfl <;> assumption)
                clear z0 z1 z2 z3 z4
                refine wp_region_held_drew (S := (fun w' => w'.cell? ⟨w.heap.size, 0, none⟩ = some (Value.slice AS S.defs.length k) ∧ w'.cell? ⟨w.heap.size, 1, none⟩ = some (Value.string S.query) ∧ w'.cell? ⟨w.heap.size, 2, none⟩ = some (Value.string S.mutation) ∧ w'.cell? ⟨g9, 0, none⟩ = some (Value.string n) ∧ w'.cell? ⟨g9, 1, none⟩ = some (Value.int .i64 (l - 1)) ∧ w'.cell? ⟨g9, 2, none⟩ = some (Value.int .i64 (m / 2)) ∧ w'.cell? ⟨gv, 3, none⟩ = some (Value.slice (some ⟨b, o, none⟩) v.ls.len k3) ∧ w'.cell? ⟨b, o + q * 5, none⟩ = some (Value.int .i64 x.kd) ∧ w'.cell? ⟨b, o + q * 5 + 1, none⟩ = some (Value.int .i64 x.nn) ∧ w'.cell? ⟨b, o + q * 5 + 2, none⟩ = some (Value.string x.ss) ∧ w'.cell? ⟨b, o + q * 5 + 3, none⟩ = some (Value.slice E3 x.ls.len j3) ∧ w'.cell? ⟨b, o + q * 5 + 4, none⟩ = some (Value.slice E4 x.ms.len j4) ∧ QI wr [(w.heap.size, 0, (Value.slice AS S.defs.length k)), (w.heap.size, 1, (Value.string S.query)), (w.heap.size, 2, (Value.string S.mutation)), (g9, 0, (Value.string n)), (g9, 1, (Value.int .i64 (l - 1))), (g9, 2, (Value.int .i64 (m / 2))), (gv, 3, (Value.slice (some ⟨b, o, none⟩) v.ls.len k3)), (b, o + q * 5, (Value.int .i64 x.kd)), (b, o + q * 5 + 1, (Value.int .i64 x.nn)), (b, o + q * 5 + 2, (Value.string x.ss)), (b, o + q * 5 + 3, (Value.slice E3 x.ls.len j3)), (b, o + q * 5 + 4, (Value.slice E4 x.ms.len j4))] w')) (by kernel_rfl) (qr_written (HE.out.next HLW.out (Below.drew (Below.refl _ _)))) (fun hHeld => ?_)
                refine wpAnyH_take (i := 0) (oi := _) (v := ?_) rfl (by kernel_rfl) (by kernel_rfl) (by kernel_rfl) (fun _ _ _ h => h) (Or.inl ⟨by rfl, ?_⟩) (by assumption) ?_
                rotate_left
                · (intro w hSw; (try dsimp only at hSw); go_simp; try with_reducible rfl)
                try simp only [Act.put, List.getElem_toArray, List.getElem_cons_zero, List.setIfInBounds_toArray, List.set_cons_zero, List.set_cons_succ]
                refine wpAnyH_take (i := 1) (oi := _) (v := ?_) rfl (by kernel_rfl) (by kernel_rfl) (by kernel_rfl) (fun _ _ _ h => h) (Or.inl ⟨by rfl, ?_⟩) (by assumption) ?_
                rotate_left
                · (intro w hSw; (try dsimp only at hSw); go_simp; try with_reducible rfl)
                try simp only [Act.put, List.getElem_toArray, List.getElem_cons_zero, List.getElem_cons_succ, List.setIfInBounds_toArray, List.set_cons_zero, List.set_cons_succ]
                refine wpAnyH_take (i := 2) (oi := _) (v := ?_) rfl (by kernel_rfl) (by kernel_rfl) (by kernel_rfl) (fun _ _ _ h => h) (Or.inl ⟨by rfl, ?_⟩) (by assumption) ?_
                rotate_left
                · (intro w hSw; (try dsimp only at hSw); go_simp; try with_reducible rfl)
                try simp only [Act.put, List.getElem_toArray, List.getElem_cons_zero, List.getElem_cons_succ, List.setIfInBounds_toArray, List.set_cons_zero, List.set_cons_succ]
                refine wpAnyH_take (i := 3) (oi := _) (v := ?_) rfl (by kernel_rfl) (by kernel_rfl) (by kernel_rfl) (fun _ _ _ h => h) (Or.inl ⟨by rfl, ?_⟩) (by assumption) ?_
                rotate_left
                · (intro w hSw; (try dsimp only at hSw); go_simp; try with_reducible rfl)
                try simp only [Act.put, List.getElem_toArray, List.getElem_cons_zero, List.getElem_cons_succ, List.setIfInBounds_toArray, List.set_cons_zero, List.set_cons_succ]
                refine wpAnyH_take (i := 4) (oi := _) (v := ?_) rfl (by kernel_rfl) (by kernel_rfl) (by kernel_rfl) (fun _ _ _ h => h) (Or.inl ⟨by rfl, ?_⟩) (by assumption) ?_
                rotate_left
                · (intro w hSw; (try dsimp only at hSw); go_simp; try with_reducible rfl)
                try simp only [Act.put, List.getElem_toArray, List.getElem_cons_zero, List.getElem_cons_succ, List.setIfInBounds_toArray, List.set_cons_zero, List.set_cons_succ]
                refine wpAnyH_take (i := 5) (oi := _) (v := ?_) rfl (by kernel_rfl) (by kernel_rfl) (by kernel_rfl) (fun _ _ _ h => h) (Or.inl ⟨by rfl, ?_⟩) (by assumption) ?_
                rotate_left
                · (intro w hSw; (try dsimp only at hSw); go_simp; try with_reducible rfl)
                try simp only [Act.put, List.getElem_toArray, List.getElem_cons_zero, List.getElem_cons_succ, List.setIfInBounds_toArray, List.set_cons_zero, List.set_cons_succ]
                refine wpAnyH_take (i := 6) (oi := _) (v := ?_) rfl (by kernel_rfl) (by kernel_rfl) (by kernel_rfl) (fun _ _ _ h => h) (Or.inl ⟨by rfl, ?_⟩) (by assumption) ?_
                rotate_left
                · (intro w hSw; (try dsimp only at hSw); go_simp; try with_reducible rfl)
                try simp only [Act.put, List.getElem_toArray, List.getElem_cons_zero, List.getElem_cons_succ, List.setIfInBounds_toArray, List.set_cons_zero, List.set_cons_succ]
                refine wpAnyH_ready (rs := [7]) (by kernel_rfl) (by simp) ?_
                refine AllReadyH.cons (o := _) rfl (fun K hK => ?_) AllReadyH.nil
                go_simp
                refine (XR.out _ (BX.out.trans (Below.mono (by first | exact qr_held (by assumption) | exact Below.drew (Below.refl _ _)) BX.out.size))).mono ?_
                rintro e w' ⟨r, rfl, hG, hb⟩
                have HG := Lib.hid hG
                clear hG
                have HBN := Lib.hid hb
                go_wp2_with fail
                refine hK.out _ _ (qr_written (QI.next (qr_last (by assumption)) HLW.out HBN.out)) (fun hHeld => ?_)
                clear hK K
                try simp only [Act.put, List.getElem_toArray, List.getElem_cons_zero, List.getElem_cons_succ, List.setIfInBounds_toArray, List.set_cons_zero, List.set_cons_succ]
                refine wpAnyH_take (i := 8) (oi := _) (v := ?_) rfl (by kernel_rfl) (by kernel_rfl) (by kernel_rfl) (fun _ _ _ h => h) (Or.inl ⟨by rfl, ?_⟩) (by assumption) ?_
                rotate_left
                · (intro w hSw; (try dsimp only at hSw); go_simp; try with_reducible rfl)
                try simp only [Act.put, List.getElem_toArray, List.getElem_cons_zero, List.getElem_cons_succ, List.setIfInBounds_toArray, List.set_cons_zero, List.set_cons_succ]
                refine wpAnyH_done (by kernel_rfl) ?_ _
                have HD := Lib.hid (qr_held hHeld)
                clear hHeld
                have X5 := Lib.hid (XX.out.next HD.out)
                have I5 := Lib.hid ((HD.out.block _ (Array.getElem?_eq_some_iff.1 II.out).1).trans II.out)
                clear HE HLW XR XX BX II HD
                cases r with
                | false =>
                  go_wp2_with fail
                  go_ret
                  exact ⟨false, rfl, fun h => (by cases h), X5.out.low⟩
                | true =>
                  have HI2 := Lib.hid (HSN.out (HG.out rfl))
                  go_wp2_with fail
                  go_roundg g
                  case measure => omega
                  case rel => exact ⟨q + 1, by omega, by go_num, Blk.Aside.intro ⟨X5.out, I5.out, HI2.out⟩⟩
        · rw [if_neg hi]
          unfold noT
          have GL := Lib.hid (fun h7 => GL.out hi h7)
          have GM := Lib.hid (fun h7 h => GM.out hi h7 h)
          clear hi G1 GE ONE ELS A8 HL
          go_upto_region 8 with fail
          have X4 := Lib.hid (X3.out.next (dbelow_new w3 (.cells #[.string ⟨#[]⟩, .int .i64 0, .int .i64 0] 26)))
          generalize w3.alloc (.cells #[.string ⟨#[]⟩, .int .i64 0, .int .i64 0] 26) = w4 at X4 ⊢
          clear X3
          obtain ⟨y0, y1, y2⟩ := three_cells X4.out.b1
          obtain ⟨x0, x1, x2⟩ := three_cells X4.out.b0
          obtain ⟨z0, z1, z2, z3, z4⟩ := five_box X4.out.b2
          obtain ⟨t1, h1⟩ : ∃ t, (n.toList == [73, 110, 116]) = t := ⟨_, rfl⟩
          obtain ⟨t2, h2⟩ : ∃ t, (n.toList == [83, 116, 114, 105, 110, 103]) = t := ⟨_, rfl⟩
          obtain ⟨t3, h3⟩ : ∃ t, (n.toList == [66, 111, 111, 108, 101, 97, 110]) = t := ⟨_, rfl⟩
          obtain ⟨t4, h4⟩ : ∃ t, (n.toList == [73, 68]) = t := ⟨_, rfl⟩
          have hk : ∀ z : Int, z ≠ 7 → (v.kd == z) = true → GP := by
            intro z hz h
            refine GL.out (fun e => hz ?_)
            rw [e] at h
            exact (eq_of_beq h).symm
          have HK := Lib.hid hk
          clear hk GL
          cases t1 with
          | true =>
            obtain ⟨b2, g2⟩ : ∃ b, (v.kd == 2) = b := ⟨_, rfl⟩
            cases b2 with
            | false =>
              go_wp2_with fail
              go_ret
              exact ⟨false, rfl, fun h => (by cases h), X4.out.low⟩
            | true =>
              by_cases hn1 : (-2147483648 : Int) ≤ v.nn
              · have hn1' : decide ((-2147483648 : Int) ≤ v.nn) = true := decide_eq_true hn1
                go_wp2_with fail
                go_ret
                exact ⟨_, rfl, fun _ => HK.out 2 (by decide) g2, X4.out.low⟩
              · have hn1' : decide ((-2147483648 : Int) ≤ v.nn) = false := decide_eq_false hn1
                go_wp2_with fail
                go_ret
                exact ⟨false, rfl, fun h => (by cases h), X4.out.low⟩
          | false =>
          cases t2 with
          | true =>
            go_wp2_with fail
            go_ret
            exact ⟨_, rfl, fun h => HK.out 4 (by decide) h, X4.out.low⟩
          | false =>
          cases t3 with
          | true =>
            go_wp2_with fail
            go_ret
            exact ⟨_, rfl, fun h => HK.out 1 (by decide) h, X4.out.low⟩
          | false =>
          cases t4 with
          | true =>
            obtain ⟨b4, g4⟩ : ∃ b, (v.kd == 4) = b := ⟨_, rfl⟩
            cases b4 with
            | true =>
              go_wp2_with fail
              go_ret
              exact ⟨true, rfl, fun _ => HK.out 4 (by decide) g4, X4.out.low⟩
            | false =>
              go_wp2_with fail
              go_ret
              exact ⟨_, rfl, fun h => HK.out 2 (by decide) h, X4.out.low⟩
          | false =>
          go_wp2_with fail
          refine (FI.out _ X4.out.low).mono ?_
          rintro e w5 ⟨d0, d1, d2, d3, d4, d5, rfl, hT, hb⟩
          have X5 := Lib.hid (X4.out.next hb)
          clear hb FI y0 y1 y2 x0 x1 x2 z0 z1 z2 z3 z4 X4 h1 h2 h3 h4
          generalize findD S.defs n = fd at hT GM ⊢
          obtain ⟨d, ok⟩ := fd
          dsimp only at hT GM ⊢
          obtain ⟨Af, kf, Ax, kx, Ap, kp, Am, km, e, _, _, _, ⟨hlp, hrp⟩, ⟨hlm, hrm⟩⟩ := defn_cells hT
          simp only [List.cons.injEq, and_true] at e
          obtain ⟨rfl, rfl, rfl, rfl, rfl, rfl⟩ := e
          have HRP := Lib.hid hrp
          have HRM := Lib.hid hrm
          have HLP := Lib.hid hlp
          have HLM := Lib.hid hlm
          clear hT hrp hrm hlp hlm
          go_upto_region 27 with fail
          have hbn := dbelow_new w5 (.cells #[.int .i64 d.kind, .string d.name, .slice Af d.faces.length kf, .slice Ax d.fields.length kx, .slice Ap d.parts.length kp, .slice Am d.params.length km] 65)
          have X6 := Lib.hid (X5.out.next hbn)
          have D6 := Lib.hid (heap_alloc_new w5 (.cells #[.int .i64 d.kind, .string d.name, .slice Af d.faces.length kf, .slice Ax d.fields.length kx, .slice Ap d.parts.length kp, .slice Am d.params.length km] 65))
          have RP6 := Lib.hid (RowT.below (hbn.mono (Nat.le_trans HB.out X5.out.low.size)) HRP.out)
          have RM6 := Lib.hid (RowT.below (hbn.mono (Nat.le_trans HB.out X5.out.low.size)) HRM.out)
          generalize w5.alloc (.cells #[.int .i64 d.kind, .string d.name, .slice Af d.faces.length kf, .slice Ax d.fields.length kx, .slice Ap d.parts.length kp, .slice Am d.params.length km] 65) = w6 at X6 D6 RP6 RM6 hbn ⊢
          generalize w5.heap.size = g12 at D6 ⊢
          clear hbn HRP HRM X5
          obtain ⟨⟨y0, y1, y2, y3, y4, y5⟩, _⟩ := six_cells D6.out
          obtain ⟨x0, x1, x2⟩ := three_cells X6.out.b0
          obtain ⟨z0, z1, z2, z3, z4⟩ := five_box X6.out.b2
          obtain ⟨c4, e4⟩ : ∃ b, (d.kind == 4) = b := ⟨_, rfl⟩
          obtain ⟨c5, e5⟩ : ∃ b, (d.kind == 5) = b := ⟨_, rfl⟩
          cases c4 with
          | true =>
            obtain ⟨b5, g5⟩ : ∃ b, (v.kd == 5) = b := ⟨_, rfl⟩
            cases b5 with
            | false =>
              go_wp2_with fail
              go_ret
              exact ⟨false, rfl, fun h => (by cases h), X6.out.low⟩
            | true =>
              have HAS := Lib.hid (rhas_any Ap d.parts.length kp d.parts v.ss w6 HLP.out (str_rowP (fun b hb => Nat.lt_of_lt_of_le hb (Nat.le_trans HB.out X6.out.low.size)) RP6.out))
              go_wp2_with fail
              refine HAS.out.mono ?_
              rintro e w7 ⟨rfl, hb⟩
              have X7 := Lib.hid (X6.out.next hb)
              clear hb x0 x1 x2 y0 y1 y2 y3 y4 y5 z0 z1 z2 z3 z4 HAS D6 RP6 RM6 X6
              go_wp2_with fail
              go_ret
              exact ⟨_, rfl, fun _ => HK.out 5 (by decide) g5, X7.out.low⟩
          | false =>
            cases c5 with
            | false =>
              go_wp2_with fail
              go_ret
              exact ⟨false, rfl, fun h => (by cases h), X6.out.low⟩
            | true =>
              obtain ⟨b7, g7⟩ : ∃ b, (v.kd == 7) = b := ⟨_, rfl⟩
              cases b7 with
              | false =>
                go_wp2_with fail
                go_ret
                exact ⟨false, rfl, fun h => (by cases h), X6.out.low⟩
              | true =>
                go_wp2_with fail
                refine (INP.out d.params Am km _ X6.out.low HLM.out RM6.out).mono ?_
                rintro e w7 ⟨r, rfl, hG, hb⟩
                have X7 := Lib.hid (X6.out.next hb)
                have HG := Lib.hid hG
                clear hb hG x0 x1 x2 y0 y1 y2 y3 y4 y5 z0 z1 z2 z3 z4 D6 RP6 RM6 X6
                go_wp2_with fail
                go_ret
                exact ⟨r, rfl, fun h => GM.out (by simpa using g7) (HG.out h), X7.out.low⟩
end Go.Proofs.YtcfdfgbobnocnaaGreatDoor
