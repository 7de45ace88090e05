/- The document's input. (gen_ref2.py wrote it.) -/
import Derived.Test.YtcfdfgbobnocnaaGreatDoorDfRef3
import Derived.Test.YtcfdfgbobnocnaaGreatDoorVGet
namespace Go.Proofs.YtcfdfgbobnocnaaGreatDoor
open Go.RowKit

def SaysB (P : Prop) (w : World) (e : Ending) (w' : World) : Prop := ∃ b, e = .returned (.bool b) ∧ (b = true → P) ∧ Below w.heap.size w w'
def RightC (S : SchT) (N : Nat) : Prop := ∀ (n : ByteArray) (l m : Int) (v : VT) (al : Bool) (c0 c1 c2 : Value) (A3 A4 : Option Addr) (k3 k4 : Nat) (w : World) (B : Nat), msr ⟨n, l, m, false, v⟩ ≤ N → n.size ≤ 9223372036854775807 → B ≤ w.heap.size → TS w (fun b => b < B) (encSch S) [c0, c1, c2] → TS w (fun b => b < B) (encV v) [.int .i64 v.kd, .int .i64 v.nn, .string v.ss, .slice A3 v.ls.len k3, .slice A4 v.ms.len k4] →
  Calls Tryz.prog 26 #[.agg #[c0, c1, c2], .agg #[.string n, .int .i64 l, .int .i64 m], .agg #[.int .i64 v.kd, .int .i64 v.nn, .string v.ss, .slice A3 v.ls.len k3, .slice A4 v.ms.len k4], .bool al] w (SaysB (G S.defs ⟨n, l, m, false, v⟩) w)
def MemsG (D : List DefnT) (ps : List VarT) (ms : List (ByteArray × VT)) : Prop := ∀ y, y ∈ ms → (paramD ps y.1).2 = true ∧ G D (memP ps y)
theorem MemsG.snoc {D : List DefnT} {ps : List VarT} {ms : List (ByteArray × VT)} {q : Nat} {x : ByteArray × VT} (h : MemsG D ps (ms.take q)) (hx : ms[q]? = some x) (h1 : (paramD ps x.1).2 = true) (h2 : G D (memP ps x)) : MemsG D ps (ms.take (q + 1)) := by
  intro y hy
  rw [List.take_add_one, hx] at hy
  rcases List.mem_append.1 hy with hy | hy
  · exact h y hy
  · obtain rfl : y = x := by simpa using hy
    exact ⟨h1, h2⟩
def QI (wz : World) (cs : List (Nat × Nat × Value)) (W : World) : Prop := (∀ p, p ∈ cs → W.cell? ⟨p.1, p.2.1, none⟩ = some p.2.2) ∧ Below wz.heap.size wz W
theorem QI.next {wz W W' : World} {cs : List (Nat × Nat × Value)} (h : QI wz cs W) (hl : ∀ p, p ∈ cs → p.1 < wz.heap.size) (hb : Below W.heap.size W W') : QI wz cs W' :=
  ⟨fun p hp => (hb.cell (p := ⟨p.1, p.2.1, none⟩) (Nat.lt_of_lt_of_le (hl p hp) h.2.size)).trans (h.1 p hp), h.2.trans (hb.mono h.2.size)⟩
theorem qi_written {wz W : World} {a1 b1 a2 b2 a3 b3 a4 b4 a5 b5 a6 b6 a7 b7 a8 b8 a9 b9 a10 b10 a11 b11 : Nat} {v1 v2 v3 v4 v5 v6 v7 v8 v9 v10 v11 : Value} (h : QI wz [(a1, b1, v1), (a2, b2, v2), (a3, b3, v3), (a4, b4, v4), (a5, b5, v5), (a6, b6, v6), (a7, b7, v7), (a8, b8, v8), (a9, b9, v9), (a10, b10, v10), (a11, b11, v11)] W) :
    W.cell? ⟨a1, b1, none⟩ = some v1 ∧ W.cell? ⟨a2, b2, none⟩ = some v2 ∧ W.cell? ⟨a3, b3, none⟩ = some v3 ∧ W.cell? ⟨a4, b4, none⟩ = some v4 ∧ W.cell? ⟨a5, b5, none⟩ = some v5 ∧ W.cell? ⟨a6, b6, none⟩ = some v6 ∧ W.cell? ⟨a7, b7, none⟩ = some v7 ∧ W.cell? ⟨a8, b8, none⟩ = some v8 ∧ W.cell? ⟨a9, b9, none⟩ = some v9 ∧ W.cell? ⟨a10, b10, none⟩ = some v10 ∧ W.cell? ⟨a11, b11, none⟩ = some v11 ∧ QI wz [(a1, b1, v1), (a2, b2, v2), (a3, b3, v3), (a4, b4, v4), (a5, b5, v5), (a6, b6, v6), (a7, b7, v7), (a8, b8, v8), (a9, b9, v9), (a10, b10, v10), (a11, b11, v11)] W :=
  ⟨h.1 (a1, b1, v1) (by simp), h.1 (a2, b2, v2) (by simp), h.1 (a3, b3, v3) (by simp), h.1 (a4, b4, v4) (by simp), h.1 (a5, b5, v5) (by simp), h.1 (a6, b6, v6) (by simp), h.1 (a7, b7, v7) (by simp), h.1 (a8, b8, v8) (by simp), h.1 (a9, b9, v9) (by simp), h.1 (a10, b10, v10) (by simp), h.1 (a11, b11, v11) (by simp), h⟩
theorem qi_held {wz W : World} {cs : List (Nat × Nat × Value)} {p1 p2 p3 p4 p5 p6 p7 p8 p9 p10 p11 : Prop} (h : p1 ∧ p2 ∧ p3 ∧ p4 ∧ p5 ∧ p6 ∧ p7 ∧ p8 ∧ p9 ∧ p10 ∧ p11 ∧ QI wz cs W) : Below wz.heap.size wz W := h.2.2.2.2.2.2.2.2.2.2.2.2
theorem qi_last {wz W : World} {cs : List (Nat × Nat × Value)} {p1 p2 p3 p4 p5 p6 p7 p8 p9 p10 p11 : Prop} (h : p1 ∧ p2 ∧ p3 ∧ p4 ∧ p5 ∧ p6 ∧ p7 ∧ p8 ∧ p9 ∧ p10 ∧ p11 ∧ QI wz cs W) : QI wz cs W := h.2.2.2.2.2.2.2.2.2.2.2
theorem qj_written {wz W : World} {a1 b1 a2 b2 : Nat} {v1 v2 : Value} (h : QI wz [(a1, b1, v1), (a2, b2, v2)] W) :
    W.cell? ⟨a1, b1, none⟩ = some v1 ∧ W.cell? ⟨a2, b2, none⟩ = some v2 ∧ QI wz [(a1, b1, v1), (a2, b2, v2)] W :=
  ⟨h.1 (a1, b1, v1) (by simp), h.1 (a2, b2, v2) (by simp), h⟩
theorem qj_held {wz W : World} {cs : List (Nat × Nat × Value)} {p1 p2 : Prop} (h : p1 ∧ p2 ∧ QI wz cs W) : Below wz.heap.size wz W := h.2.2.2
theorem qj_last {wz W : World} {cs : List (Nat × Nat × Value)} {p1 p2 : Prop} (h : p1 ∧ p2 ∧ QI wz cs W) : QI wz cs W := h.2.2
set_option maxRecDepth 100000 in
set_option maxHeartbeats 8000000 in
theorem rinput_any (S : SchT) (N : Nat) (IH : RightC S N) (ps : List VarT) (Ap : Option Addr) (cp : Nat) (ms : VM) (A : Option Addr) (c : Nat) (c0 c1 c2 : Value) (w : World) (B : Nat) (hB : B ≤ w.heap.size) (hps : ps.length ≤ 9223372036854775807) (hml : ms.len ≤ 9223372036854775807) (hS : TS w (fun b => b < B) (encSch S) [c0, c1, c2]) (hR : RowT w (fun b => b < B) (rowOf encVar ps) Ap) (hM : RowT w (fun b => b < B) (rowOf encPr ms.list) A) (hA : MAt w B ms A 0) (hN : ∀ y, y ∈ ms.list → ∀ (n : ByteArray) (l m : Int) (hs : Bool), msr ⟨n, l, m, hs, y.2⟩ ≤ N) :
    Calls Tryz.prog 44 #[.agg #[c0, c1, c2], .slice Ap ps.length cp, .slice A ms.len c] w (SaysB (MemsG S.defs ps ms.list) w) := by
  have RG := Lib.hid (fun (n : ByteArray) (l m : Int) (v : VT) (A3 A4 : Option Addr) (k3 k4 : Nat) (wx : World) (h : Below w.heap.size w wx) (hm : msr ⟨n, l, m, false, v⟩ ≤ N) (hn : n.size ≤ 9223372036854775807) hT => IH n l m v true c0 c1 c2 A3 A4 k3 k4 wx B hm hn (Nat.le_trans hB h.size) (TS.low (h.mono hB) hS) (TS.low (h.mono hB) hT))
  have PA := Lib.hid (fun (wx : World) (hb : Below w.heap.size w wx) (n : ByteArray) (hn : n.size ≤ 9223372036854775807) => rparam_any ps Ap cp n wx (fun b => b < B) (fun b h => Nat.lt_of_lt_of_le h (Nat.le_trans hB hb.size)) hps hn (RowT.keep (fun b h => ⟨h, hb.block b (Nat.lt_of_lt_of_le h hB)⟩) _ _ hR))
  have GE := Lib.hid (fun (wx : World) (hb : Below w.heap.size w wx) (s : ByteArray) => rget_any s ms A c wx B (Nat.le_trans hB hb.size) hml (MAt.below (hb.mono hB) ms A 0 hA))
  have TN := Lib.hid (fun n => paramD_tn hR n)
  have HN := Lib.hid hN
  have HM := Lib.hid hM
  have HR := Lib.hid hR
  have HB := Lib.hid hB
  obtain ⟨AS, k, e, _⟩ := sch_cells hS
  injection e with e0 e
  injection e with e1 e
  injection e with e2 e
  subst e0 e1 e2
  have X0 := Lib.hid (show BX w (.slice AS S.defs.length k) (.string S.query) (.string S.mutation) _ from ⟨dbelow_new w _, heap_alloc_new w (.cells #[.slice AS S.defs.length k, .string S.query, .string S.mutation] 24)⟩)
  have hlist : ms.list.length = ms.len := VM.list_len ms
  clear IH hB hS hR hM hA hN e
  go_enter Tryz.func44, Tryz.ntmps44
  go_wp2_with fail
  go_loopg [7] ms.len (fun g i wx => ∃ q : Nat, q + g = ms.len ∧ i = .int .i64 q ∧ Aside (BX w (.slice AS S.defs.length k) (.string S.query) (.string S.mutation) wx ∧ MemsG S.defs ps (ms.list.take q)))
  case atStart => exact ⟨0, by omega, rfl, Blk.Aside.intro ⟨X0.out, fun y hy => by simp at hy⟩⟩
  case round =>
    obtain ⟨q, hq, rfl, HX⟩ := hrel
    have XX := Lib.hid HX.out.1
    have HI := Lib.hid HX.out.2
    clear HX X0
    cases gk with
    | zero =>
      obtain rfl : q = ms.len := by omega
      have HI' : Hid (MemsG S.defs ps ms.list) := Lib.hid (by have h := HI.out; rwa [List.take_of_length_le (by omega)] at h)
      clear HI RG TN HN HM PA
      go_wp2_with fail
      go_loopg [11] ps.length (fun g2 i wx => ∃ z : Nat, z + g2 = ps.length ∧ i = .int .i64 z ∧ Aside (BX w (.slice AS S.defs.length k) (.string S.query) (.string S.mutation) wx))
      case atStart => exact ⟨0, by omega, rfl, Blk.Aside.intro XX.out⟩
      case round =>
        obtain ⟨z, hz, rfl, HZ⟩ := hrel
        have X2 := Lib.hid HZ.out
        clear HZ XX
        cases gk with
        | zero =>
          obtain rfl : z = ps.length := by omega
          go_wp2_with fail
          go_ret
          exact ⟨true, rfl, fun _ => HI'.out, X2.out.1⟩
        | succ g2 =>
          have hqn : z < ps.length := by omega
          have hqn' : (z : Int) < (ps.length : Int) := by omega
          obtain ⟨x, hx⟩ : ∃ x, ps[z]? = some x := ⟨_, List.getElem?_eq_getElem hqn⟩
          obtain ⟨b, o, A3, k3, A4, k4, rfl, hb, ⟨g0, g1, g2', g3, g4, g5, g6, g7, g8, g9⟩, hs1, hs2⟩ := var_at (RowT.keep (P' := fun b => b < B) (fun b hb => ⟨hb, X2.out.1.block b (Nat.lt_of_lt_of_le hb HB.out)⟩) _ _ HR.out) hx
          have hbl : b < wr.heap.size := Nat.lt_of_lt_of_le hb (Nat.le_trans HB.out X2.out.1.size)
          have IS := Lib.hid (fun wx => ris_any x.tn x.tl x.tm wx hs2)
          clear hx hb hs1 hs2
          go_wp2_with fail
          refine (GE.out _ X2.out.1 _).mono ?_
          rintro e w3 ⟨d0, d1, d2, d3, d4, rfl, hv3, hb3⟩
          generalize getM ms x.name = gm at hv3 ⊢
          obtain ⟨⟨gk0, gn0, gs0, gl0, gm0⟩, ok⟩ := gm
          unfold VAt at hv3
          obtain ⟨rfl, rfl, rfl, _, ⟨D3, j3, rfl, _, _⟩, D4, j4, rfl, _, _⟩ := hv3
          dsimp only
          have X3 := Lib.hid (X2.out.next hb3)
          have g1 := (hb3.cell (p := ⟨b, o + z * 10 + 1, none⟩) hbl).trans g1
          have g2' := (hb3.cell (p := ⟨b, o + z * 10 + 2, none⟩) hbl).trans g2'
          have g3 := (hb3.cell (p := ⟨b, o + z * 10 + 3, none⟩) hbl).trans g3
          have g4 := (hb3.cell (p := ⟨b, o + z * 10 + 4, none⟩) hbl).trans g4
          have hbl3 : b < w3.heap.size := Nat.lt_of_lt_of_le hbl hb3.size
          clear g0 g5 g6 g7 g8 g9 X2 hb3
          go_upto_region 16 with fail
          have hbn := dbelow_new w3 (.cells #[.int .i64 gk0, .int .i64 gn0, .string gs0, .slice D3 gl0.len j3, .slice D4 gm0.len j4] 30)
          have X4 := Lib.hid (X3.out.next hbn)
          have g1 := (hbn.cell (p := ⟨b, o + z * 10 + 1, none⟩) hbl3).trans g1
          have g2' := (hbn.cell (p := ⟨b, o + z * 10 + 2, none⟩) hbl3).trans g2'
          have g3 := (hbn.cell (p := ⟨b, o + z * 10 + 3, none⟩) hbl3).trans g3
          have g4 := (hbn.cell (p := ⟨b, o + z * 10 + 4, none⟩) hbl3).trans g4
          have hbl4 : b < (w3.alloc (.cells #[.int .i64 gk0, .int .i64 gn0, .string gs0, .slice D3 gl0.len j3, .slice D4 gm0.len j4] 30)).heap.size := Nat.lt_of_lt_of_le hbl3 hbn.size
          generalize w3.alloc (.cells #[.int .i64 gk0, .int .i64 gn0, .string gs0, .slice D3 gl0.len j3, .slice D4 gm0.len j4] 30) = w4 at X4 g1 g2' g3 g4 hbl4 ⊢
          clear hbn X3 hbl3
          cases ok with
          | true =>
            go_wp2_with fail
            go_roundg g2
            case measure => omega
            case rel => exact ⟨z + 1, by omega, by go_num, Blk.Aside.intro X4.out⟩
          | false =>
            go_wp2_with fail
            refine (IS.out _).mono ?_
            rintro e w5 ⟨rfl, hb5⟩
            have X5 := Lib.hid (X4.out.next hb5)
            have g4 := (hb5.cell (p := ⟨b, o + z * 10 + 4, none⟩) hbl4).trans g4
            clear g1 g2' g3 hb5 X4
            generalize isB x.tn.data.toList x.tl x.tm = ib
            generalize x.has = hs at g4
            cases ib with
            | false =>
              go_wp2_with fail
              go_roundg g2
              case measure => omega
              case rel => exact ⟨z + 1, by omega, by go_num, Blk.Aside.intro X5.out⟩
            | true =>
              cases hs with
              | true =>
                go_wp2_with fail
                go_roundg g2
                case measure => omega
                case rel => exact ⟨z + 1, by omega, by go_num, Blk.Aside.intro X5.out⟩
              | false =>
                go_wp2_with fail
                go_ret
                exact ⟨false, rfl, fun h => (by cases h), X5.out.1⟩
    | succ gg =>
      have hqn : q < ms.len := by omega
      have hqn' : (q : Int) < (ms.len : Int) := by omega
      obtain ⟨x, hx⟩ : ∃ x, ms.list[q]? = some x := ⟨_, List.getElem?_eq_getElem (by omega)⟩
      obtain ⟨b, o, A3, k3, A4, k4, rfl, hb, ⟨g0, g1, g2, g3, g4, g5⟩, hnm, hT⟩ := mem_at HM.out hx
      have HBL := Lib.hid (Nat.lt_of_lt_of_le hb HB.out)
      have HC := Lib.hid (And.intro g0 (And.intro g1 (And.intro g2 (And.intro g3 (And.intro g4 g5)))))
      have HNM := Lib.hid hnm
      have HXL := Lib.hid hx
      have HT := Lib.hid hT
      have y0 := (XX.out.1.cell (p := ⟨b, o + q * 6, none⟩) HBL.out).trans g0
      clear hx hb hnm hT g0 g1 g2 g3 g4 g5
      go_wp2_with fail
      refine (PA.out _ XX.out.1 _ HNM.out).mono ?_
      rintro e w3 ⟨E3, j3, E4, j4, rfl, hb3⟩
      have X3 := Lib.hid (XX.out.next hb3)
      have HSN : Hid (MemsG S.defs ps (ms.list.take q) → (paramD ps x.1).2 = true → G S.defs (memP ps x) → MemsG S.defs ps (ms.list.take (q + 1))) := Lib.hid (fun h h1 h2 => h.snoc HXL.out h1 h2)
      have HMP : Hid (G S.defs ⟨(paramD ps x.1).1.tn, (paramD ps x.1).1.tl, (paramD ps x.1).1.tm, false, x.2⟩ → G S.defs (memP ps x)) := Lib.hid (fun h => G_has h)
      have HTN := Lib.hid (TN.out x.1)
      generalize memP ps x = mp at HMP HSN
      generalize paramD ps x.1 = y at HSN HMP HTN ⊢
      obtain ⟨⟨ynm, ytn, ytl, ytm, yhas, yv⟩, ok⟩ := y
      dsimp only at HSN HMP HTN ⊢
      have XR := Lib.hid (fun (wx : World) (h : Below w.heap.size w wx) => RG.out ytn ytl ytm x.2 A3 A4 k3 k4 wx h (HN.out x (List.mem_of_getElem? HXL.out) _ _ _ _) HTN.out HT.out)
      clear hb3 y0 XX
      go_upto_region 5 with fail
      have B4 := Lib.hid ((X3.out.next (dbelow_new w3 (.cells #[.string ynm, .string ytn, .int .i64 ytl, .int .i64 ytm, .bool yhas, .int .i64 yv.kd, .int .i64 yv.nn, .string yv.ss, .slice E3 yv.ls.len j3, .slice E4 yv.ms.len j4] 69))).1)
      have X4 := Lib.hid (X3.out.next (dbelow_new w3 (.cells #[.string ynm, .string ytn, .int .i64 ytl, .int .i64 ytm, .bool yhas, .int .i64 yv.kd, .int .i64 yv.nn, .string yv.ss, .slice E3 yv.ls.len j3, .slice E4 yv.ms.len j4] 69)))
      have Y4 := Lib.hid (heap_alloc_new w3 (.cells #[.string ynm, .string ytn, .int .i64 ytl, .int .i64 ytm, .bool yhas, .int .i64 yv.kd, .int .i64 yv.nn, .string yv.ss, .slice E3 yv.ls.len j3, .slice E4 yv.ms.len j4] 69))
      generalize w3.alloc (.cells #[.string ynm, .string ytn, .int .i64 ytl, .int .i64 ytm, .bool yhas, .int .i64 yv.kd, .int .i64 yv.nn, .string yv.ss, .slice E3 yv.ls.len j3, .slice E4 yv.ms.len j4] 69) = w4 at B4 X4 Y4 ⊢
      generalize w3.heap.size = g4 at Y4 ⊢
      clear X3
      have HE : Hid (QI w4 [(w.heap.size, 0, (Value.slice AS S.defs.length k)), (w.heap.size, 1, (Value.string S.query)), (w.heap.size, 2, (Value.string S.mutation)), (g4, 1, (Value.string ytn)), (g4, 2, (Value.int .i64 ytl)), (g4, 3, (Value.int .i64 ytm)), (b, o + q * 6 + 1, (Value.int .i64 x.2.kd)), (b, o + q * 6 + 2, (Value.int .i64 x.2.nn)), (b, o + q * 6 + 3, (Value.string x.2.ss)), (b, o + q * 6 + 4, (Value.slice A3 x.2.ls.len k3)), (b, o + q * 6 + 5, (Value.slice A4 x.2.ms.len k4))] w4) := Lib.hid (by
        obtain ⟨x0, x1, x2⟩ := three_cells X4.out.2
        obtain ⟨⟨y0, y1, y2, y3, _⟩, _⟩ := ten_cells Y4.out
        obtain ⟨_, z1, z2, z3, z4, z5⟩ := HC.out
        have z1 := (B4.out.cell (p := ⟨b, o + q * 6 + 1, none⟩) HBL.out).trans z1
        have z2 := (B4.out.cell (p := ⟨b, o + q * 6 + 2, none⟩) HBL.out).trans z2
        have z3 := (B4.out.cell (p := ⟨b, o + q * 6 + 3, none⟩) HBL.out).trans z3
        have z4 := (B4.out.cell (p := ⟨b, o + q * 6 + 4, none⟩) HBL.out).trans z4
        have z5 := (B4.out.cell (p := ⟨b, o + q * 6 + 5, none⟩) HBL.out).trans z5
        refine ⟨fun p hp => ?_, Below.refl _ _⟩
        simp only [List.mem_cons, List.not_mem_nil, or_false] at hp
        rcases hp with rfl | rfl | rfl | rfl | rfl | rfl | rfl | rfl | rfl | rfl | rfl <;> assumption)
      have HL : Hid (∀ p, p ∈ [(w.heap.size, 0, (Value.slice AS S.defs.length k)), (w.heap.size, 1, (Value.string S.query)), (w.heap.size, 2, (Value.string S.mutation)), (g4, 1, (Value.string ytn)), (g4, 2, (Value.int .i64 ytl)), (g4, 3, (Value.int .i64 ytm)), (b, o + q * 6 + 1, (Value.int .i64 x.2.kd)), (b, o + q * 6 + 2, (Value.int .i64 x.2.nn)), (b, o + q * 6 + 3, (Value.string x.2.ss)), (b, o + q * 6 + 4, (Value.slice A3 x.2.ls.len k3)), (b, o + q * 6 + 5, (Value.slice A4 x.2.ms.len k4))] → p.1 < w4.heap.size) := Lib.hid (fun p hp => by
        have l0 := X4.out.lt
        have l1 := (Array.getElem?_eq_some_iff.1 Y4.out).1
        have l2 := Nat.lt_of_lt_of_le HBL.out B4.out.size
        simp only [List.mem_cons, List.not_mem_nil, or_false] at hp
        rcases hp with rfl | rfl | rfl | rfl | rfl | rfl | rfl | rfl | rfl | rfl | rfl <;> assumption)
      clear Y4
      cases ok with
      | false =>
        refine wp_region_held_drew (S := (fun w' => w'.cell? ⟨w.heap.size, 0, none⟩ = some (Value.slice AS S.defs.length k) ∧ w'.cell? ⟨w.heap.size, 1, none⟩ = some (Value.string S.query) ∧ w'.cell? ⟨w.heap.size, 2, none⟩ = some (Value.string S.mutation) ∧ w'.cell? ⟨g4, 1, none⟩ = some (Value.string ytn) ∧ w'.cell? ⟨g4, 2, none⟩ = some (Value.int .i64 ytl) ∧ w'.cell? ⟨g4, 3, none⟩ = some (Value.int .i64 ytm) ∧ w'.cell? ⟨b, o + q * 6 + 1, none⟩ = some (Value.int .i64 x.2.kd) ∧ w'.cell? ⟨b, o + q * 6 + 2, none⟩ = some (Value.int .i64 x.2.nn) ∧ w'.cell? ⟨b, o + q * 6 + 3, none⟩ = some (Value.string x.2.ss) ∧ w'.cell? ⟨b, o + q * 6 + 4, none⟩ = some (Value.slice A3 x.2.ls.len k3) ∧ w'.cell? ⟨b, o + q * 6 + 5, none⟩ = some (Value.slice A4 x.2.ms.len k4) ∧ QI w4 [(w.heap.size, 0, (Value.slice AS S.defs.length k)), (w.heap.size, 1, (Value.string S.query)), (w.heap.size, 2, (Value.string S.mutation)), (g4, 1, (Value.string ytn)), (g4, 2, (Value.int .i64 ytl)), (g4, 3, (Value.int .i64 ytm)), (b, o + q * 6 + 1, (Value.int .i64 x.2.kd)), (b, o + q * 6 + 2, (Value.int .i64 x.2.nn)), (b, o + q * 6 + 3, (Value.string x.2.ss)), (b, o + q * 6 + 4, (Value.slice A3 x.2.ls.len k3)), (b, o + q * 6 + 5, (Value.slice A4 x.2.ms.len k4))] w')) (by kernel_rfl) (qi_written (HE.out.next HL.out (Below.drew (Below.refl _ _)))) (fun hHeld => ?_)
        refine wpAnyH_take (i := 0) (oi := _) (v := ?_) rfl (by kernel_rfl) (by kernel_rfl) (by kernel_rfl) (fun _ _ _ h => h) (Or.inl ⟨by rfl, ?_⟩) (by assumption) ?_
        rotate_left
        · (intro w hSw; (try dsimp only at hSw); go_simp; try with_reducible rfl)
        try simp only [Act.put, List.getElem_toArray, List.getElem_cons_zero, List.setIfInBounds_toArray, List.set_cons_zero, List.set_cons_succ]
        refine wpAnyH_take (i := 1) (oi := _) (v := ?_) rfl (by kernel_rfl) (by kernel_rfl) (by kernel_rfl) (fun _ _ _ h => h) (Or.inl ⟨by rfl, ?_⟩) (by assumption) ?_
        rotate_left
        · (intro w hSw; (try dsimp only at hSw); go_simp; try with_reducible rfl)
        try simp only [Act.put, List.getElem_toArray, List.getElem_cons_zero, List.getElem_cons_succ, List.setIfInBounds_toArray, List.set_cons_zero, List.set_cons_succ]
        refine wpAnyH_take (i := 2) (oi := _) (v := ?_) rfl (by kernel_rfl) (by kernel_rfl) (by kernel_rfl) (fun _ _ _ h => h) (Or.inl ⟨by rfl, ?_⟩) (by assumption) ?_
        rotate_left
        · (intro w hSw; (try dsimp only at hSw); go_simp; try with_reducible rfl)
        try simp only [Act.put, List.getElem_toArray, List.getElem_cons_zero, List.getElem_cons_succ, List.setIfInBounds_toArray, List.set_cons_zero, List.set_cons_succ]
        refine wpAnyH_take (i := 3) (oi := _) (v := undef) rfl (by kernel_rfl) (by kernel_rfl) (by kernel_rfl) (fun _ _ _ h => h) (Or.inr ⟨by rfl, rfl⟩) (by assumption) ?_
        try simp only [Act.put, List.getElem_toArray, List.getElem_cons_zero, List.getElem_cons_succ, List.setIfInBounds_toArray, List.set_cons_zero, List.set_cons_succ]
        refine wpAnyH_take (i := 4) (oi := _) (v := undef) rfl (by kernel_rfl) (by kernel_rfl) (by kernel_rfl) (fun _ _ _ h => h) (Or.inr ⟨by rfl, rfl⟩) (by assumption) ?_
        try simp only [Act.put, List.getElem_toArray, List.getElem_cons_zero, List.getElem_cons_succ, List.setIfInBounds_toArray, List.set_cons_zero, List.set_cons_succ]
        refine wpAnyH_take (i := 5) (oi := _) (v := undef) rfl (by kernel_rfl) (by kernel_rfl) (by kernel_rfl) (fun _ _ _ h => h) (Or.inr ⟨by rfl, rfl⟩) (by assumption) ?_
        try simp only [Act.put, List.getElem_toArray, List.getElem_cons_zero, List.getElem_cons_succ, List.setIfInBounds_toArray, List.set_cons_zero, List.set_cons_succ]
        refine wpAnyH_take (i := 6) (oi := _) (v := undef) rfl (by kernel_rfl) (by kernel_rfl) (by kernel_rfl) (fun _ _ _ h => h) (Or.inr ⟨by rfl, rfl⟩) (by assumption) ?_
        try simp only [Act.put, List.getElem_toArray, List.getElem_cons_zero, List.getElem_cons_succ, List.setIfInBounds_toArray, List.set_cons_zero, List.set_cons_succ]
        refine wpAnyH_take (i := 7) (oi := _) (v := undef) rfl (by kernel_rfl) (by kernel_rfl) (by kernel_rfl) (fun _ _ _ h => h) (Or.inr ⟨by rfl, rfl⟩) (by assumption) ?_
        try simp only [Act.put, List.getElem_toArray, List.getElem_cons_zero, List.getElem_cons_succ, List.setIfInBounds_toArray, List.set_cons_zero, List.set_cons_succ]
        refine wpAnyH_take (i := 8) (oi := _) (v := undef) rfl (by kernel_rfl) (by kernel_rfl) (by kernel_rfl) (fun _ _ _ h => h) (Or.inr ⟨by rfl, rfl⟩) (by assumption) ?_
        try simp only [Act.put, List.getElem_toArray, List.getElem_cons_zero, List.getElem_cons_succ, List.setIfInBounds_toArray, List.set_cons_zero, List.set_cons_succ]
        refine wpAnyH_take (i := 9) (oi := _) (v := undef) rfl (by kernel_rfl) (by kernel_rfl) (by kernel_rfl) (fun _ _ _ h => h) (Or.inr ⟨by rfl, rfl⟩) (by assumption) ?_
        try simp only [Act.put, List.getElem_toArray, List.getElem_cons_zero, List.getElem_cons_succ, List.setIfInBounds_toArray, List.set_cons_zero, List.set_cons_succ]
        refine wpAnyH_take (i := 10) (oi := _) (v := undef) rfl (by kernel_rfl) (by kernel_rfl) (by kernel_rfl) (fun _ _ _ h => h) (Or.inr ⟨by rfl, rfl⟩) (by assumption) ?_
        try simp only [Act.put, List.getElem_toArray, List.getElem_cons_zero, List.getElem_cons_succ, List.setIfInBounds_toArray, List.set_cons_zero, List.set_cons_succ]
        refine wpAnyH_take (i := 11) (oi := _) (v := undef) rfl (by kernel_rfl) (by kernel_rfl) (by kernel_rfl) (fun _ _ _ h => h) (Or.inr ⟨by rfl, rfl⟩) (by assumption) ?_
        try simp only [Act.put, List.getElem_toArray, List.getElem_cons_zero, List.getElem_cons_succ, List.setIfInBounds_toArray, List.set_cons_zero, List.set_cons_succ]
        refine wpAnyH_take (i := 12) (oi := _) (v := undef) rfl (by kernel_rfl) (by kernel_rfl) (by kernel_rfl) (fun _ _ _ h => h) (Or.inr ⟨by rfl, rfl⟩) (by assumption) ?_
        try simp only [Act.put, List.getElem_toArray, List.getElem_cons_zero, List.getElem_cons_succ, List.setIfInBounds_toArray, List.set_cons_zero, List.set_cons_succ]
        refine wpAnyH_take (i := 13) (oi := _) (v := ?_) rfl (by kernel_rfl) (by kernel_rfl) (by kernel_rfl) (fun _ _ _ h => h) (Or.inl ⟨by rfl, ?_⟩) (by assumption) ?_
        rotate_left
        · (intro w hSw; (try dsimp only at hSw); go_simp; try with_reducible rfl)
        try simp only [Act.put, List.getElem_toArray, List.getElem_cons_zero, List.getElem_cons_succ, List.setIfInBounds_toArray, List.set_cons_zero, List.set_cons_succ]
        refine wpAnyH_done (by kernel_rfl) ?_ _
        have HD := Lib.hid (qi_held hHeld)
        clear hHeld
        have X5 := Lib.hid (X4.out.next HD.out)
        clear HE HL XR X4 B4 HD
        go_wp2_with fail
        go_ret
        exact ⟨false, rfl, fun h => (by cases h), X5.out.1⟩
      | true =>
        refine wp_region_held_drew (S := (fun w' => w'.cell? ⟨w.heap.size, 0, none⟩ = some (Value.slice AS S.defs.length k) ∧ w'.cell? ⟨w.heap.size, 1, none⟩ = some (Value.string S.query) ∧ w'.cell? ⟨w.heap.size, 2, none⟩ = some (Value.string S.mutation) ∧ w'.cell? ⟨g4, 1, none⟩ = some (Value.string ytn) ∧ w'.cell? ⟨g4, 2, none⟩ = some (Value.int .i64 ytl) ∧ w'.cell? ⟨g4, 3, none⟩ = some (Value.int .i64 ytm) ∧ w'.cell? ⟨b, o + q * 6 + 1, none⟩ = some (Value.int .i64 x.2.kd) ∧ w'.cell? ⟨b, o + q * 6 + 2, none⟩ = some (Value.int .i64 x.2.nn) ∧ w'.cell? ⟨b, o + q * 6 + 3, none⟩ = some (Value.string x.2.ss) ∧ w'.cell? ⟨b, o + q * 6 + 4, none⟩ = some (Value.slice A3 x.2.ls.len k3) ∧ w'.cell? ⟨b, o + q * 6 + 5, none⟩ = some (Value.slice A4 x.2.ms.len k4) ∧ QI w4 [(w.heap.size, 0, (Value.slice AS S.defs.length k)), (w.heap.size, 1, (Value.string S.query)), (w.heap.size, 2, (Value.string S.mutation)), (g4, 1, (Value.string ytn)), (g4, 2, (Value.int .i64 ytl)), (g4, 3, (Value.int .i64 ytm)), (b, o + q * 6 + 1, (Value.int .i64 x.2.kd)), (b, o + q * 6 + 2, (Value.int .i64 x.2.nn)), (b, o + q * 6 + 3, (Value.string x.2.ss)), (b, o + q * 6 + 4, (Value.slice A3 x.2.ls.len k3)), (b, o + q * 6 + 5, (Value.slice A4 x.2.ms.len k4))] w')) (by kernel_rfl) (qi_written (HE.out.next HL.out (Below.drew (Below.refl _ _)))) (fun hHeld => ?_)
        refine wpAnyH_take (i := 0) (oi := _) (v := ?_) rfl (by kernel_rfl) (by kernel_rfl) (by kernel_rfl) (fun _ _ _ h => h) (Or.inl ⟨by rfl, ?_⟩) (by assumption) ?_
        rotate_left
        · (intro w hSw; (try dsimp only at hSw); go_simp; try with_reducible rfl)
        try simp only [Act.put, List.getElem_toArray, List.getElem_cons_zero, List.setIfInBounds_toArray, List.set_cons_zero, List.set_cons_succ]
        refine wpAnyH_take (i := 1) (oi := _) (v := ?_) rfl (by kernel_rfl) (by kernel_rfl) (by kernel_rfl) (fun _ _ _ h => h) (Or.inl ⟨by rfl, ?_⟩) (by assumption) ?_
        rotate_left
        · (intro w hSw; (try dsimp only at hSw); go_simp; try with_reducible rfl)
        try simp only [Act.put, List.getElem_toArray, List.getElem_cons_zero, List.getElem_cons_succ, List.setIfInBounds_toArray, List.set_cons_zero, List.set_cons_succ]
        refine wpAnyH_take (i := 2) (oi := _) (v := ?_) rfl (by kernel_rfl) (by kernel_rfl) (by kernel_rfl) (fun _ _ _ h => h) (Or.inl ⟨by rfl, ?_⟩) (by assumption) ?_
        rotate_left
        · (intro w hSw; (try dsimp only at hSw); go_simp; try with_reducible rfl)
        try simp only [Act.put, List.getElem_toArray, List.getElem_cons_zero, List.getElem_cons_succ, List.setIfInBounds_toArray, List.set_cons_zero, List.set_cons_succ]
        refine wpAnyH_take (i := 3) (oi := _) (v := ?_) rfl (by kernel_rfl) (by kernel_rfl) (by kernel_rfl) (fun _ _ _ h => h) (Or.inl ⟨by rfl, ?_⟩) (by assumption) ?_
        rotate_left
        · (intro w hSw; (try dsimp only at hSw); go_simp; try with_reducible rfl)
        try simp only [Act.put, List.getElem_toArray, List.getElem_cons_zero, List.getElem_cons_succ, List.setIfInBounds_toArray, List.set_cons_zero, List.set_cons_succ]
        refine wpAnyH_take (i := 4) (oi := _) (v := ?_) rfl (by kernel_rfl) (by kernel_rfl) (by kernel_rfl) (fun _ _ _ h => h) (Or.inl ⟨by rfl, ?_⟩) (by assumption) ?_
        rotate_left
        · (intro w hSw; (try dsimp only at hSw); go_simp; try with_reducible rfl)
        try simp only [Act.put, List.getElem_toArray, List.getElem_cons_zero, List.getElem_cons_succ, List.setIfInBounds_toArray, List.set_cons_zero, List.set_cons_succ]
        refine wpAnyH_take (i := 5) (oi := _) (v := ?_) rfl (by kernel_rfl) (by kernel_rfl) (by kernel_rfl) (fun _ _ _ h => h) (Or.inl ⟨by rfl, ?_⟩) (by assumption) ?_
        rotate_left
        · (intro w hSw; (try dsimp only at hSw); go_simp; try with_reducible rfl)
        try simp only [Act.put, List.getElem_toArray, List.getElem_cons_zero, List.getElem_cons_succ, List.setIfInBounds_toArray, List.set_cons_zero, List.set_cons_succ]
        refine wpAnyH_take (i := 6) (oi := _) (v := ?_) rfl (by kernel_rfl) (by kernel_rfl) (by kernel_rfl) (fun _ _ _ h => h) (Or.inl ⟨by rfl, ?_⟩) (by assumption) ?_
        rotate_left
        · (intro w hSw; (try dsimp only at hSw); go_simp; try with_reducible rfl)
        try simp only [Act.put, List.getElem_toArray, List.getElem_cons_zero, List.getElem_cons_succ, List.setIfInBounds_toArray, List.set_cons_zero, List.set_cons_succ]
        refine wpAnyH_take (i := 7) (oi := _) (v := ?_) rfl (by kernel_rfl) (by kernel_rfl) (by kernel_rfl) (fun _ _ _ h => h) (Or.inl ⟨by rfl, ?_⟩) (by assumption) ?_
        rotate_left
        · (intro w hSw; (try dsimp only at hSw); go_simp; try with_reducible rfl)
        try simp only [Act.put, List.getElem_toArray, List.getElem_cons_zero, List.getElem_cons_succ, List.setIfInBounds_toArray, List.set_cons_zero, List.set_cons_succ]
        refine wpAnyH_take (i := 8) (oi := _) (v := ?_) rfl (by kernel_rfl) (by kernel_rfl) (by kernel_rfl) (fun _ _ _ h => h) (Or.inl ⟨by rfl, ?_⟩) (by assumption) ?_
        rotate_left
        · (intro w hSw; (try dsimp only at hSw); go_simp; try with_reducible rfl)
        try simp only [Act.put, List.getElem_toArray, List.getElem_cons_zero, List.getElem_cons_succ, List.setIfInBounds_toArray, List.set_cons_zero, List.set_cons_succ]
        refine wpAnyH_take (i := 9) (oi := _) (v := ?_) rfl (by kernel_rfl) (by kernel_rfl) (by kernel_rfl) (fun _ _ _ h => h) (Or.inl ⟨by rfl, ?_⟩) (by assumption) ?_
        rotate_left
        · (intro w hSw; (try dsimp only at hSw); go_simp; try with_reducible rfl)
        try simp only [Act.put, List.getElem_toArray, List.getElem_cons_zero, List.getElem_cons_succ, List.setIfInBounds_toArray, List.set_cons_zero, List.set_cons_succ]
        refine wpAnyH_take (i := 10) (oi := _) (v := ?_) rfl (by kernel_rfl) (by kernel_rfl) (by kernel_rfl) (fun _ _ _ h => h) (Or.inl ⟨by rfl, ?_⟩) (by assumption) ?_
        rotate_left
        · (intro w hSw; (try dsimp only at hSw); go_simp; try with_reducible rfl)
        try simp only [Act.put, List.getElem_toArray, List.getElem_cons_zero, List.getElem_cons_succ, List.setIfInBounds_toArray, List.set_cons_zero, List.set_cons_succ]
        refine wpAnyH_ready (rs := [11]) (by kernel_rfl) (by simp) ?_
        refine AllReadyH.cons (o := _) rfl (fun K hK => ?_) AllReadyH.nil
        go_simp
        refine (XR.out _ (B4.out.trans (Below.mono (by first | exact qi_held (by assumption) | exact Below.drew (Below.refl _ _)) B4.out.size))).mono ?_
        rintro e w' ⟨r, rfl, hG, hb⟩
        have HG := Lib.hid hG
        clear hG
        have HBN := Lib.hid hb
        go_wp2_with fail
        refine hK.out _ _ (qi_written (QI.next (qi_last (by assumption)) HL.out HBN.out)) (fun hHeld => ?_)
        clear hK K
        try simp only [Act.put, List.getElem_toArray, List.getElem_cons_zero, List.getElem_cons_succ, List.setIfInBounds_toArray, List.set_cons_zero, List.set_cons_succ]
        refine wpAnyH_take (i := 12) (oi := _) (v := ?_) rfl (by kernel_rfl) (by kernel_rfl) (by kernel_rfl) (fun _ _ _ h => h) (Or.inl ⟨by rfl, ?_⟩) (by assumption) ?_
        rotate_left
        · (intro w hSw; (try dsimp only at hSw); go_simp; try with_reducible rfl)
        try simp only [Act.put, List.getElem_toArray, List.getElem_cons_zero, List.getElem_cons_succ, List.setIfInBounds_toArray, List.set_cons_zero, List.set_cons_succ]
        refine wpAnyH_take (i := 13) (oi := _) (v := ?_) rfl (by kernel_rfl) (by kernel_rfl) (by kernel_rfl) (fun _ _ _ h => h) (Or.inl ⟨by rfl, ?_⟩) (by assumption) ?_
        rotate_left
        · (intro w hSw; (try dsimp only at hSw); go_simp; try with_reducible rfl)
        try simp only [Act.put, List.getElem_toArray, List.getElem_cons_zero, List.getElem_cons_succ, List.setIfInBounds_toArray, List.set_cons_zero, List.set_cons_succ]
        refine wpAnyH_done (by kernel_rfl) ?_ _
        have HD := Lib.hid (qi_held hHeld)
        clear hHeld
        have X5 := Lib.hid (X4.out.next HD.out)
        clear HE HL XR X4 B4 HD
        cases r with
        | false =>
          go_wp2_with fail
          go_ret
          exact ⟨false, rfl, fun h => (by cases h), X5.out.1⟩
        | true =>
          have HI2 := Lib.hid (HSN.out HI.out trivial (HMP.out (HG.out rfl)))
          clear HSN HMP HG HI
          go_wp2_with fail
          go_loopg [10] q (fun g2 i wx => ∃ z : Nat, z + g2 = q ∧ i = .int .i64 z ∧ Aside (BX w (.slice AS S.defs.length k) (.string S.query) (.string S.mutation) wx))
          case atStart => exact ⟨0, by omega, rfl, Blk.Aside.intro X5.out⟩
          case round =>
            obtain ⟨z, hz, rfl, HZ⟩ := hrel
            have X6 := Lib.hid HZ.out
            clear HZ X5
            cases gk with
            | zero =>
              obtain rfl : z = q := by omega
              go_wp2_with fail
              go_roundg gg
              case measure => omega
              case rel => exact ⟨z + 1, by omega, by go_num, Blk.Aside.intro ⟨X6.out, HI2.out⟩⟩
            | succ g2 =>
              have hzn : z < ms.len := by omega
              have hzn' : (z : Int) < (ms.len : Int) := by omega
              have hzq' : (z : Int) < (q : Int) := by omega
              obtain ⟨x', hx'⟩ : ∃ x, ms.list[z]? = some x := ⟨_, List.getElem?_eq_getElem (by omega)⟩
              obtain ⟨b', o', _, _, _, _, e', hb', ⟨h0, _⟩, _, _⟩ := mem_at HM.out hx'
              injection e' with e'
              injection e' with e1 e2 _
              subst e1 e2
              have h0 := (X6.out.1.cell (p := ⟨b, o + z * 6, none⟩) HBL.out).trans h0
              have h1 := (X6.out.1.cell (p := ⟨b, o + q * 6, none⟩) HBL.out).trans HC.out.1
              obtain ⟨s1, hs1⟩ : ∃ s, x'.1 = s := ⟨_, rfl⟩
              obtain ⟨s2, hs2⟩ : ∃ s, x.1 = s := ⟨_, rfl⟩
              rw [hs1] at h0
              rw [hs2] at h1
              obtain ⟨t, ht⟩ : ∃ t, (s1.toList == s2.toList) = t := ⟨_, rfl⟩
              clear hx' hb' hs1 hs2
              have HE2 : Hid (QI wr [(b, o + z * 6, (Value.string s1)), (b, o + q * 6, (Value.string s2))] wr) := Lib.hid (by
                refine ⟨fun p hp => ?_, Below.refl _ _⟩
                simp only [List.mem_cons, List.not_mem_nil, or_false] at hp
                rcases hp with rfl | rfl <;> assumption)
              have HL2 : Hid (∀ p, p ∈ [(b, o + z * 6, (Value.string s1)), (b, o + q * 6, (Value.string s2))] → p.1 < wr.heap.size) := Lib.hid (fun p hp => by
                have l2 := Nat.lt_of_lt_of_le HBL.out X6.out.1.size
                simp only [List.mem_cons, List.not_mem_nil, or_false] at hp
                rcases hp with rfl | rfl <;> assumption)
              clear h0 h1
              go_wp2_with fail
              refine wp_region_held_drew (S := (fun w' => w'.cell? ⟨b, o + z * 6, none⟩ = some (Value.string s1) ∧ w'.cell? ⟨b, o + q * 6, none⟩ = some (Value.string s2) ∧ QI wr [(b, o + z * 6, (Value.string s1)), (b, o + q * 6, (Value.string s2))] w')) (by kernel_rfl) (qj_written (HE2.out.next HL2.out (Below.drew (Below.refl _ _)))) (fun hHeld => ?_)
              refine wpAnyH_take (i := 0) (oi := _) (v := ?_) rfl (by kernel_rfl) (by kernel_rfl) (by kernel_rfl) (fun _ _ _ h => h) (Or.inl ⟨by rfl, ?_⟩) (by assumption) ?_
              rotate_left
              · (intro w hSw; (try dsimp only at hSw); go_simp; try with_reducible rfl)
              try simp only [Act.put, List.getElem_toArray, List.getElem_cons_zero, List.setIfInBounds_toArray, List.set_cons_zero, List.set_cons_succ]
              refine wpAnyH_take (i := 1) (oi := _) (v := ?_) rfl (by kernel_rfl) (by kernel_rfl) (by kernel_rfl) (fun _ _ _ h => h) (Or.inl ⟨by rfl, ?_⟩) (by assumption) ?_
              rotate_left
              · (intro w hSw; (try dsimp only at hSw); go_simp; try with_reducible rfl)
              try simp only [Act.put, List.getElem_toArray, List.getElem_cons_zero, List.getElem_cons_succ, List.setIfInBounds_toArray, List.set_cons_zero, List.set_cons_succ]
              refine wpAnyH_take (i := 2) (oi := _) (v := ?_) rfl (by kernel_rfl) (by kernel_rfl) (by kernel_rfl) (fun _ _ _ h => h) (Or.inl ⟨by rfl, ?_⟩) (by assumption) ?_
              rotate_left
              · (intro w hSw; (try dsimp only at hSw); go_simp; try with_reducible rfl)
              try simp only [Act.put, List.getElem_toArray, List.getElem_cons_zero, List.getElem_cons_succ, List.setIfInBounds_toArray, List.set_cons_zero, List.set_cons_succ]
              refine wpAnyH_take (i := 3) (oi := _) (v := ?_) rfl (by kernel_rfl) (by kernel_rfl) (by kernel_rfl) (fun _ _ _ h => h) (Or.inl ⟨by rfl, ?_⟩) (by assumption) ?_
              rotate_left
              · (intro w hSw; (try dsimp only at hSw); go_simp; try with_reducible rfl)
              try simp only [Act.put, List.getElem_toArray, List.getElem_cons_zero, List.getElem_cons_succ, List.setIfInBounds_toArray, List.set_cons_zero, List.set_cons_succ]
              refine wpAnyH_take (i := 4) (oi := _) (v := ?_) rfl (by kernel_rfl) (by kernel_rfl) (by kernel_rfl) (fun _ _ _ h => h) (Or.inl ⟨by rfl, ?_⟩) (by assumption) ?_
              rotate_left
              · (intro w hSw; (try dsimp only at hSw); go_simp; try with_reducible rfl)
              try simp only [Act.put, List.getElem_toArray, List.getElem_cons_zero, List.getElem_cons_succ, List.setIfInBounds_toArray, List.set_cons_zero, List.set_cons_succ]
              refine wpAnyH_take (i := 5) (oi := _) (v := ?_) rfl (by kernel_rfl) (by kernel_rfl) (by kernel_rfl) (fun _ _ _ h => h) (Or.inl ⟨by rfl, ?_⟩) (by assumption) ?_
              rotate_left
              · (intro w hSw; (try dsimp only at hSw); go_simp; try with_reducible rfl)
              try simp only [Act.put, List.getElem_toArray, List.getElem_cons_zero, List.getElem_cons_succ, List.setIfInBounds_toArray, List.set_cons_zero, List.set_cons_succ]
              refine wpAnyH_take (i := 6) (oi := _) (v := ?_) rfl (by kernel_rfl) (by kernel_rfl) (by kernel_rfl) (fun _ _ _ h => h) (Or.inl ⟨by rfl, ?_⟩) (by assumption) ?_
              rotate_left
              · (intro w hSw; (try dsimp only at hSw); go_simp; try with_reducible rfl)
              try simp only [Act.put, List.getElem_toArray, List.getElem_cons_zero, List.getElem_cons_succ, List.setIfInBounds_toArray, List.set_cons_zero, List.set_cons_succ]
              refine wpAnyH_take (i := 7) (oi := _) (v := ?_) rfl (by kernel_rfl) (by kernel_rfl) (by kernel_rfl) (fun _ _ _ h => h) (Or.inl ⟨by rfl, ?_⟩) (by assumption) ?_
              rotate_left
              · (intro w hSw; (try dsimp only at hSw); go_simp; try with_reducible rfl)
              try simp only [Act.put, List.getElem_toArray, List.getElem_cons_zero, List.getElem_cons_succ, List.setIfInBounds_toArray, List.set_cons_zero, List.set_cons_succ]
              refine wpAnyH_take (i := 8) (oi := _) (v := ?_) rfl (by kernel_rfl) (by kernel_rfl) (by kernel_rfl) (fun _ _ _ h => h) (Or.inl ⟨by rfl, ?_⟩) (by assumption) ?_
              rotate_left
              · (intro w hSw; (try dsimp only at hSw); go_simp; try with_reducible rfl)
              try simp only [Act.put, List.getElem_toArray, List.getElem_cons_zero, List.getElem_cons_succ, List.setIfInBounds_toArray, List.set_cons_zero, List.set_cons_succ]
              refine wpAnyH_take (i := 9) (oi := _) (v := ?_) rfl (by kernel_rfl) (by kernel_rfl) (by kernel_rfl) (fun _ _ _ h => h) (Or.inl ⟨by rfl, ?_⟩) (by assumption) ?_
              rotate_left
              · (intro w hSw; (try dsimp only at hSw); go_simp; try with_reducible rfl)
              try simp only [Act.put, List.getElem_toArray, List.getElem_cons_zero, List.getElem_cons_succ, List.setIfInBounds_toArray, List.set_cons_zero, List.set_cons_succ]
              refine wpAnyH_take (i := 10) (oi := _) (v := ?_) rfl (by kernel_rfl) (by kernel_rfl) (by kernel_rfl) (fun _ _ _ h => h) (Or.inl ⟨by rfl, ?_⟩) (by assumption) ?_
              rotate_left
              · (intro w hSw; (try dsimp only at hSw); go_simp; try with_reducible rfl)
              try simp only [Act.put, List.getElem_toArray, List.getElem_cons_zero, List.getElem_cons_succ, List.setIfInBounds_toArray, List.set_cons_zero, List.set_cons_succ]
              refine wpAnyH_done (by kernel_rfl) ?_ _
              have HD2 := Lib.hid (qj_held hHeld)
              clear hHeld
              have X7 := Lib.hid (X6.out.next HD2.out)
              clear HE2 HL2 HD2 X6
              cases t with
              | true =>
                go_wp2_with fail
                go_ret
                exact ⟨false, rfl, fun h => (by cases h), X7.out.1⟩
              | false =>
                go_wp2_with fail
                go_roundg g2
                case measure => omega
                case rel => exact ⟨z + 1, by omega, by go_num, Blk.Aside.intro X7.out⟩
end Go.Proofs.YtcfdfgbobnocnaaGreatDoor
