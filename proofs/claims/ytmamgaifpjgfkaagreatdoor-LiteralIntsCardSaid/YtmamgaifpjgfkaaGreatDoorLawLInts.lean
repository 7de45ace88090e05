/- The walk of the law LiteralInts. (gen_ints.py wrote it.) -/
import Derived.Test.YtmamgaifpjgfkaaGreatDoorDfField
import Derived.Test.YtmamgaifpjgfkaaGreatDoorDfLightS
import Derived.Test.YtmamgaifpjgfkaaGreatDoorLtComp
namespace Go.Proofs.YtmamgaifpjgfkaaGreatDoor.LLInts
open Go.RowKit

def QC (wz : World) (cs : List (Nat × Nat × Value)) (W : World) : Prop := (∀ p, p ∈ cs → W.cell? ⟨p.1, p.2.1, none⟩ = some p.2.2) ∧ Below wz.heap.size wz W
theorem QC.next {wz W W' : World} {cs : List (Nat × Nat × Value)} (h : QC wz cs W) (hl : ∀ p, p ∈ cs → p.1 < wz.heap.size) (hb : Below W.heap.size W W') : QC wz cs W' :=
  ⟨fun p hp => (hb.cell (p := ⟨p.1, p.2.1, none⟩) (Nat.lt_of_lt_of_le (hl p hp) h.2.size)).trans (h.1 p hp), h.2.trans (hb.mono h.2.size)⟩
theorem q_written {wz W : World} {a1 b1 a2 b2 a3 b3 a4 b4 a5 b5 a6 b6 a7 b7 a8 b8 a9 b9 a10 b10 a11 b11 a12 b12 a13 b13 a14 b14 a15 b15 a16 b16 a17 b17 a18 b18 : Nat} {v1 v2 v3 v4 v5 v6 v7 v8 v9 v10 v11 v12 v13 v14 v15 v16 v17 v18 : Value} (h : QC wz [(a1, b1, v1), (a2, b2, v2), (a3, b3, v3), (a4, b4, v4), (a5, b5, v5), (a6, b6, v6), (a7, b7, v7), (a8, b8, v8), (a9, b9, v9), (a10, b10, v10), (a11, b11, v11), (a12, b12, v12), (a13, b13, v13), (a14, b14, v14), (a15, b15, v15), (a16, b16, v16), (a17, b17, v17), (a18, b18, v18)] W) :
    W.cell? ⟨a1, b1, none⟩ = some v1 ∧ W.cell? ⟨a2, b2, none⟩ = some v2 ∧ W.cell? ⟨a3, b3, none⟩ = some v3 ∧ W.cell? ⟨a4, b4, none⟩ = some v4 ∧ W.cell? ⟨a5, b5, none⟩ = some v5 ∧ W.cell? ⟨a6, b6, none⟩ = some v6 ∧ W.cell? ⟨a7, b7, none⟩ = some v7 ∧ W.cell? ⟨a8, b8, none⟩ = some v8 ∧ W.cell? ⟨a9, b9, none⟩ = some v9 ∧ W.cell? ⟨a10, b10, none⟩ = some v10 ∧ W.cell? ⟨a11, b11, none⟩ = some v11 ∧ W.cell? ⟨a12, b12, none⟩ = some v12 ∧ W.cell? ⟨a13, b13, none⟩ = some v13 ∧ W.cell? ⟨a14, b14, none⟩ = some v14 ∧ W.cell? ⟨a15, b15, none⟩ = some v15 ∧ W.cell? ⟨a16, b16, none⟩ = some v16 ∧ W.cell? ⟨a17, b17, none⟩ = some v17 ∧ W.cell? ⟨a18, b18, none⟩ = some v18 ∧ QC wz [(a1, b1, v1), (a2, b2, v2), (a3, b3, v3), (a4, b4, v4), (a5, b5, v5), (a6, b6, v6), (a7, b7, v7), (a8, b8, v8), (a9, b9, v9), (a10, b10, v10), (a11, b11, v11), (a12, b12, v12), (a13, b13, v13), (a14, b14, v14), (a15, b15, v15), (a16, b16, v16), (a17, b17, v17), (a18, b18, v18)] W :=
  ⟨h.1 (a1, b1, v1) (by simp), h.1 (a2, b2, v2) (by simp), h.1 (a3, b3, v3) (by simp), h.1 (a4, b4, v4) (by simp), h.1 (a5, b5, v5) (by simp), h.1 (a6, b6, v6) (by simp), h.1 (a7, b7, v7) (by simp), h.1 (a8, b8, v8) (by simp), h.1 (a9, b9, v9) (by simp), h.1 (a10, b10, v10) (by simp), h.1 (a11, b11, v11) (by simp), h.1 (a12, b12, v12) (by simp), h.1 (a13, b13, v13) (by simp), h.1 (a14, b14, v14) (by simp), h.1 (a15, b15, v15) (by simp), h.1 (a16, b16, v16) (by simp), h.1 (a17, b17, v17) (by simp), h.1 (a18, b18, v18) (by simp), h⟩
theorem q_held {wz W : World} {cs : List (Nat × Nat × Value)} {p1 p2 p3 p4 p5 p6 p7 p8 p9 p10 p11 p12 p13 p14 p15 p16 p17 p18 : Prop} (h : p1 ∧ p2 ∧ p3 ∧ p4 ∧ p5 ∧ p6 ∧ p7 ∧ p8 ∧ p9 ∧ p10 ∧ p11 ∧ p12 ∧ p13 ∧ p14 ∧ p15 ∧ p16 ∧ p17 ∧ p18 ∧ QC wz cs W) : Below wz.heap.size wz W := h.2.2.2.2.2.2.2.2.2.2.2.2.2.2.2.2.2.2.2
theorem q_last {wz W : World} {cs : List (Nat × Nat × Value)} {p1 p2 p3 p4 p5 p6 p7 p8 p9 p10 p11 p12 p13 p14 p15 p16 p17 p18 : Prop} (h : p1 ∧ p2 ∧ p3 ∧ p4 ∧ p5 ∧ p6 ∧ p7 ∧ p8 ∧ p9 ∧ p10 ∧ p11 ∧ p12 ∧ p13 ∧ p14 ∧ p15 ∧ p16 ∧ p17 ∧ p18 ∧ QC wz cs W) : QC wz cs W := h.2.2.2.2.2.2.2.2.2.2.2.2.2.2.2.2.2.2
theorem leaf_all (D : List DefnT) (nm s : ByteArray) (k n : Int) (h : k = 1 ∨ k = 2 ∨ k = 4) : allP D ⟨nm, 0, 1, false, .mk k n s .nil .nil⟩ = [⟨nm, 0, 1, false, .mk k n s .nil .nil⟩] := by
  have hi : itemB nm 0 1 = false := by unfold itemB; simp
  have hw : withinL D ⟨nm, 0, 1, false, .mk k n s .nil .nil⟩ = [] := by
    unfold withinL
    rw [if_neg (by show ¬ (k = 8 ∨ k = 0); omega), if_neg (by show ¬ itemB nm 0 1 = true; rw [hi]; simp), if_neg (by show ¬ k = 7; omega)]
  rw [allP_eq, hw]
  rfl
theorem leaf_right (S : SchT) (c0 c1 c2 : Value) (nm s : ByteArray) (k n : Int) (r : Bool) (h : k = 1 ∨ k = 2 ∨ k = 4) (hm : nm.size ≤ 100) (hs : s.size ≤ 1000) (hr : (fitV goodB (.mk k n s .nil .nil) && fitsB S.defs nm 0 1 (.mk k n s .nil .nil)) = r) (wx w : World) (hb : Below w.heap.size w wx) (hw : Laid5 w) (hz : SlimS S) (hS : TS w (fun b => b < w.heap.size) (encSch S) [c0, c1, c2]) :
    Calls Tryz.prog 15 #[.agg #[c0, c1, c2], .agg #[.string nm, .int .i64 0, .int .i64 1], .agg #[.int .i64 k, .int .i64 n, .string s, .slice none 0 0, .slice none 0 0]] wx fun e w' => e = .returned (.bool r) ∧ Below wx.heap.size wx w' := by
  have ha := leaf_all S.defs nm s k n h
  refine (right_any S nm 0 1 (.mk k n s .nil .nil) c0 c1 c2 none none 0 0 wx w.heap.size hb.size (hw.below hb) hz (by simp [sizeV, sizeL, sizeM]; omega) _ rfl [nm] (by show 1 ≤ _; unfold maxLen; omega) ?_ ?_ (by omega) (TS.low hb hS) (leaf_ts k n s (by omega))).mono ?_
  · rw [ha]
    intro x hx
    rw [List.mem_singleton] at hx
    subst hx
    exact ⟨by simp, by simp [VT.ms, VM.len], by simp [VT.ls, VL.len]⟩
  · rw [ha]
    show 1 ≤ _
    omega
  · rintro e w' ⟨rfl, hb'⟩
    refine ⟨?_, hb'⟩
    have : rightL S.defs ⟨nm, 0, 1, false, .mk k n s .nil .nil⟩ = r := by
      unfold rightL
      rw [ha, ← hr]
      simp
    rw [this]
set_option maxRecDepth 100000 in
theorem must_any (s : ByteArray) (w : World) : Calls Tryz.prog 28 #[.string s] w fun e w' => e = .returned (.agg #[.string s, .int .i64 0, .int .i64 1]) ∧ Below w.heap.size w w' := by
  go_enter Tryz.func28, Tryz.ntmps28
  go_wp2_with fail
  exact ret_ty1 (b := w.heap.size) (x := .string s) (y := .int .i64 0) (z := .int .i64 1) rfl rfl rfl (heap_alloc_new _ _) ⟨rfl, dbelow_new _ _⟩
def nStr : ByteArray := ⟨#[83, 116, 114, 105, 110, 103]⟩
def nBool : ByteArray := ⟨#[66, 111, 111, 108, 101, 97, 110]⟩
def nID : ByteArray := ⟨#[73, 68]⟩
section
variable (D : List DefnT) (n b : Int) (s : ByteArray)
theorem v_ii : (fitV goodB (.mk 2 n ⟨#[]⟩ .nil .nil) && fitsB D nInt 0 1 (.mk 2 n ⟨#[]⟩ .nil .nil)) = (decide (-2147483648 ≤ n) && decide (n ≤ 2147483647)) := by kernel_rfl
theorem v_ix : (fitV goodB (.mk 4 0 s .nil .nil) && fitsB D nInt 0 1 (.mk 4 0 s .nil .nil)) = false := by
  rw [show fitsB D nInt 0 1 (.mk 4 0 s .nil .nil) = false by kernel_rfl, Bool.and_false]
theorem v_iy : (fitV goodB (.mk 1 b ⟨#[]⟩ .nil .nil) && fitsB D nInt 0 1 (.mk 1 b ⟨#[]⟩ .nil .nil)) = false := by
  rw [show fitsB D nInt 0 1 (.mk 1 b ⟨#[]⟩ .nil .nil) = false by kernel_rfl, Bool.and_false]
theorem v_sx : (fitV goodB (.mk 4 0 s .nil .nil) && fitsB D nStr 0 1 (.mk 4 0 s .nil .nil)) = goodB s.data.toList := by
  rw [show fitsB D nStr 0 1 (.mk 4 0 s .nil .nil) = true by kernel_rfl, Bool.and_true]
  simp [fitV, soundB, fitL, fitM, VL.len, VM.len]
theorem v_si : (fitV goodB (.mk 2 n ⟨#[]⟩ .nil .nil) && fitsB D nStr 0 1 (.mk 2 n ⟨#[]⟩ .nil .nil)) = false := by
  rw [show fitsB D nStr 0 1 (.mk 2 n ⟨#[]⟩ .nil .nil) = false by kernel_rfl, Bool.and_false]
theorem v_by (hb : b = 0 ∨ b = 1) : (fitV goodB (.mk 1 b ⟨#[]⟩ .nil .nil) && fitsB D nBool 0 1 (.mk 1 b ⟨#[]⟩ .nil .nil)) = true := by rcases hb with rfl | rfl <;> kernel_rfl
theorem v_bi : (fitV goodB (.mk 2 n ⟨#[]⟩ .nil .nil) && fitsB D nBool 0 1 (.mk 2 n ⟨#[]⟩ .nil .nil)) = false := by
  rw [show fitsB D nBool 0 1 (.mk 2 n ⟨#[]⟩ .nil .nil) = false by kernel_rfl, Bool.and_false]
theorem v_dx : (fitV goodB (.mk 4 0 s .nil .nil) && fitsB D nID 0 1 (.mk 4 0 s .nil .nil)) = goodB s.data.toList := by
  rw [show fitsB D nID 0 1 (.mk 4 0 s .nil .nil) = true by kernel_rfl, Bool.and_true]
  simp [fitV, soundB, fitL, fitM, VL.len, VM.len]
theorem v_di : (fitV goodB (.mk 2 n ⟨#[]⟩ .nil .nil) && fitsB D nID 0 1 (.mk 2 n ⟨#[]⟩ .nil .nil)) = true := by kernel_rfl
theorem v_dy : (fitV goodB (.mk 1 b ⟨#[]⟩ .nil .nil) && fitsB D nID 0 1 (.mk 1 b ⟨#[]⟩ .nil .nil)) = false := by
  rw [show fitsB D nID 0 1 (.mk 1 b ⟨#[]⟩ .nil .nil) = false by kernel_rfl, Bool.and_false]
end
set_option maxRecDepth 100000 in
set_option maxHeartbeats 8000000 in
theorem walk (w : World) (S : SchT) (c0 c1 c2 : Value) (hw : Laid5 w) (hS : TS w (fun b => b < w.heap.size) (encSch S) [c0, c1, c2]) (hz : SlimS S) (n b : Int) (s : ByteArray) (hss : s.size ≤ 140737488355328) :
    Calls Tryz.prog 8 #[.agg #[c0, c1, c2], .int .i64 n, .string s, .int .i64 b] w fun e w' => e = .returned (.bool true) ∧ Below w.heap.size w w' := by
  have HW := Lib.hid hw
  have L := Lib.hid (fun (wx : World) (h : Below w.heap.size w wx) => light_any S c0 c1 c2 wx w.heap.size h.size (TS.low h hS))
  have ALL : Hid (s.size ≤ 1000 → (b = 0 ∨ b = 1) → True) := Lib.hid (fun _ _ => trivial)
  obtain ⟨A, k, e, _⟩ := sch_cells hS
  injection e with e0 e
  injection e with e1 e
  injection e with e2 e
  subst e0 e1 e2
  have HSS := Lib.hid hS
  have HZZ := Lib.hid hz
  clear e hS hz hw ALL
  have B0 := Lib.hid (dbelow_new w (.cells #[.slice A S.defs.length k, .string S.query, .string S.mutation] 24))
  have X0 := Lib.hid (heap_alloc_new w (.cells #[.slice A S.defs.length k, .string S.query, .string S.mutation] 24))
  go_enter Tryz.func8, Tryz.ntmps8
  go_wp2_with fail
  refine (L.out _ B0.out).mono ?_
  rintro e w1 ⟨lt, rfl, hb1⟩
  have B1 := Lib.hid (B0.out.trans (hb1.mono B0.out.size))
  have X1 := Lib.hid ((hb1.block _ (Array.getElem?_eq_some_iff.1 X0.out).1).trans X0.out)
  clear hb1 L X0 B0
  cases lt with
  | false =>
    go_wp2_with fail
    refine (awake_any w1 (HW.out.below B1.out)).mono ?_
    rintro e w2 ⟨rfl, hb2⟩
    have B2 := Lib.hid (B1.out.trans (hb2.mono B1.out.size))
    clear hb2
    go_wp2_with fail
    go_ret
    exact ⟨rfl, B2.out⟩
  | true =>
    by_cases hs : 1000 < s.size
    · have hs1 : decide (1000 < (s.size : Int)) = true := by simp; omega
      have hs2 : (1000 : Int) < (s.size : Int) := by omega
      go_wp2_with fail
      refine (awake_any w1 (HW.out.below B1.out)).mono ?_
      rintro e w2 ⟨rfl, hb2⟩
      have B2 := Lib.hid (B1.out.trans (hb2.mono B1.out.size))
      clear hb2
      go_wp2_with fail
      go_ret
      exact ⟨rfl, B2.out⟩
    · have hs1 : decide (1000 < (s.size : Int)) = false := by simp; omega
      have hs2 : ¬ (1000 : Int) < (s.size : Int) := by omega
      have hs3 : Hid (s.size ≤ 1000) := Lib.hid (by omega)
      by_cases hb : b = 0 ∨ b = 1
      · have HB := Lib.hid hb
        have hb0 : (b != 0 && b != 1) = false := by rcases hb with rfl | rfl <;> decide
        have GI := Lib.hid (fun (wx : World) => pint_any n wx)
        have GT := Lib.hid (fun (wx : World) => ptext_any s wx)
        have GG := Lib.hid (fun (wx : World) (h : Below w.heap.size w wx) => good_any s wx (by have := hs3.out; omega) ((HW.out.below h).1))
        have HS3 := Lib.hid (show s.size ≤ 1000 by omega)
        clear hss hs hb0
        have hcs : Hid ((b != 0) = false ∨ ((b != 0) = true ∧ (b != 1) = false)) := Lib.hid (by rcases hb with rfl | rfl <;> decide)
        clear hb
        rename_i QQ K2 a2 K1 a1 K0 a0
        have key1 : ∀ u14 u15 u16 u17 u18 u19 u20 u21 u22 u23 u24 u25 u26 u27 u28 u29 : Value, K2 { tmps := #[.agg #[.slice A S.defs.length k, .string S.query, .string S.mutation], .int .i64 n, .string s, .int .i64 b, .pointer (some ⟨w.heap.size, 0, none⟩), undef, undef, undef, .bool false, undef, undef, undef, undef, undef, u14, u15, u16, u17, u18, u19, u20, u21, u22, u23, u24, u25, u26, u27, u28, u29, undef, undef, undef, undef, undef, undef, undef, undef, undef, undef, undef, undef, undef, undef, undef, undef, undef, undef, undef, undef, undef, undef, undef, undef, undef, undef, undef, undef, undef, undef, undef, undef, undef, undef, undef, undef, undef, undef, undef, undef, undef, undef, undef, undef, undef, undef, undef, undef, undef, undef, undef, undef, undef, undef, undef, undef, undef, undef, undef, undef, undef, undef, undef, undef, undef, undef, undef, undef, undef, undef, undef, undef, undef, undef, undef, undef, undef, undef, undef, undef, undef, undef, undef], defers := [] } w1 := by
          intro u14 u15 u16 u17 u18 u19 u20 u21 u22 u23 u24 u25 u26 u27 u28 u29
          refine a2 _ _ ?_
          clear a2 a1 a0 hs1 hs2 hcs
          go_wp2_with fail
          refine (GI.out _).mono ?_
          rintro e w2 ⟨rfl, hb2⟩
          have B2 := Lib.hid (B1.out.trans (hb2.mono B1.out.size))
          have X2 := Lib.hid ((hb2.block _ (Array.getElem?_eq_some_iff.1 X1.out).1).trans X1.out)
          clear hb2
          go_wp2_with fail
          refine (GT.out _).mono ?_
          rintro e w3 ⟨rfl, hb3⟩
          have B3 := Lib.hid (B2.out.trans (hb3.mono B2.out.size))
          have X3 := Lib.hid ((hb3.block _ (Array.getElem?_eq_some_iff.1 X2.out).1).trans X2.out)
          clear hb3 X2
          go_upto_region 4 with fail
          have X4 : (((w3.alloc (.cells #[.int .i64 2, .int .i64 n, .string ⟨#[]⟩, .slice none 0 0, .slice none 0 0] 30)).alloc (.cells #[.int .i64 4, .int .i64 0, .string s, .slice none 0 0, .slice none 0 0] 30)).alloc (.cells #[.int .i64 1, .int .i64 b, .string ⟨#[]⟩, .slice none 0 0, .slice none 0 0] 30)).heap[w.heap.size]? = some (.cells #[.slice A S.defs.length k, .string S.query, .string S.mutation] 24 (0, 0)) := by
            rw [Below.heap_alloc _ _ _ (by have := (Array.getElem?_eq_some_iff.1 X3.out).1; simp; omega), Below.heap_alloc _ _ _ (by have := (Array.getElem?_eq_some_iff.1 X3.out).1; simp; omega), Below.heap_alloc _ _ _ (Array.getElem?_eq_some_iff.1 X3.out).1]
            exact X3.out
          have I4 : (((w3.alloc (.cells #[.int .i64 2, .int .i64 n, .string ⟨#[]⟩, .slice none 0 0, .slice none 0 0] 30)).alloc (.cells #[.int .i64 4, .int .i64 0, .string s, .slice none 0 0, .slice none 0 0] 30)).alloc (.cells #[.int .i64 1, .int .i64 b, .string ⟨#[]⟩, .slice none 0 0, .slice none 0 0] 30)).heap[w3.heap.size]? = some (.cells #[.int .i64 2, .int .i64 n, .string ⟨#[]⟩, .slice none 0 0, .slice none 0 0] 30 (0, 0)) := by
            rw [Below.heap_alloc _ _ _ (by simp; omega), Below.heap_alloc _ _ _ (by simp)]; exact heap_alloc_new _ _
          have J4 : (((w3.alloc (.cells #[.int .i64 2, .int .i64 n, .string ⟨#[]⟩, .slice none 0 0, .slice none 0 0] 30)).alloc (.cells #[.int .i64 4, .int .i64 0, .string s, .slice none 0 0, .slice none 0 0] 30)).alloc (.cells #[.int .i64 1, .int .i64 b, .string ⟨#[]⟩, .slice none 0 0, .slice none 0 0] 30)).heap[w3.heap.size + 1]? = some (.cells #[.int .i64 4, .int .i64 0, .string s, .slice none 0 0, .slice none 0 0] 30 (0, 0)) := by
            rw [Below.heap_alloc _ _ _ (by simp)]; exact heap_two _ _ _
          have K4 : (((w3.alloc (.cells #[.int .i64 2, .int .i64 n, .string ⟨#[]⟩, .slice none 0 0, .slice none 0 0] 30)).alloc (.cells #[.int .i64 4, .int .i64 0, .string s, .slice none 0 0, .slice none 0 0] 30)).alloc (.cells #[.int .i64 1, .int .i64 b, .string ⟨#[]⟩, .slice none 0 0, .slice none 0 0] 30)).heap[w3.heap.size + 1 + 1]? = some (.cells #[.int .i64 1, .int .i64 b, .string ⟨#[]⟩, .slice none 0 0, .slice none 0 0] 30 (0, 0)) := by
            have := heap_two (w3.alloc (.cells #[.int .i64 2, .int .i64 n, .string ⟨#[]⟩, .slice none 0 0, .slice none 0 0] 30)) (.cells #[.int .i64 4, .int .i64 0, .string s, .slice none 0 0, .slice none 0 0] 30) (.cells #[.int .i64 1, .int .i64 b, .string ⟨#[]⟩, .slice none 0 0, .slice none 0 0] 30)
            simpa using this
          have hb4 : Below w3.heap.size w3 (((w3.alloc (.cells #[.int .i64 2, .int .i64 n, .string ⟨#[]⟩, .slice none 0 0, .slice none 0 0] 30)).alloc (.cells #[.int .i64 4, .int .i64 0, .string s, .slice none 0 0, .slice none 0 0] 30)).alloc (.cells #[.int .i64 1, .int .i64 b, .string ⟨#[]⟩, .slice none 0 0, .slice none 0 0] 30)) := (two_below w3 _ _).alloc (by simp; omega) _
          have B4a := Lib.hid (B3.out.trans (hb4.mono B3.out.size))
          generalize ((w3.alloc (.cells #[.int .i64 2, .int .i64 n, .string ⟨#[]⟩, .slice none 0 0, .slice none 0 0] 30)).alloc (.cells #[.int .i64 4, .int .i64 0, .string s, .slice none 0 0, .slice none 0 0] 30)).alloc (.cells #[.int .i64 1, .int .i64 b, .string ⟨#[]⟩, .slice none 0 0, .slice none 0 0] 30) = w4a at X4 I4 J4 K4 hb4 B4a ⊢
          generalize w3.heap.size + 1 + 1 = gy at K4 ⊢
          generalize w3.heap.size + 1 = gx at J4 ⊢
          generalize hgi : w3.heap.size = gi at I4 ⊢
          have HXA := Lib.hid X4
          have HIA := Lib.hid I4
          have HJA := Lib.hid J4
          have HKA := Lib.hid K4
          clear X4 I4 J4 K4 hb4 hgi X3 B3 B2 GI GT
          go_wp2_with fail
          refine (GG.out _ B4a.out).mono ?_
          rintro e w4 ⟨rfl, hb4⟩
          have B4 := Lib.hid (B4a.out.trans (hb4.mono B4a.out.size))
          have X4 := (hb4.block _ (Array.getElem?_eq_some_iff.1 HXA.out).1).trans HXA.out
          have I4 := (hb4.block _ (Array.getElem?_eq_some_iff.1 HIA.out).1).trans HIA.out
          have J4 := (hb4.block _ (Array.getElem?_eq_some_iff.1 HJA.out).1).trans HJA.out
          have K4 := (hb4.block _ (Array.getElem?_eq_some_iff.1 HKA.out).1).trans HKA.out
          clear hb4 HXA HIA HJA HKA GG B4a
          have HE : Hid (QC w4 [(w.heap.size, 0, (Value.slice A S.defs.length k)), (w.heap.size, 1, (Value.string S.query)), (w.heap.size, 2, (Value.string S.mutation)), (gi, 0, (Value.int .i64 2)), (gi, 1, (Value.int .i64 n)), (gi, 2, (Value.string ⟨#[]⟩)), (gi, 3, (Value.slice none 0 0)), (gi, 4, (Value.slice none 0 0)), (gx, 0, (Value.int .i64 4)), (gx, 1, (Value.int .i64 0)), (gx, 2, (Value.string s)), (gx, 3, (Value.slice none 0 0)), (gx, 4, (Value.slice none 0 0)), (gy, 0, (Value.int .i64 1)), (gy, 1, (Value.int .i64 b)), (gy, 2, (Value.string ⟨#[]⟩)), (gy, 3, (Value.slice none 0 0)), (gy, 4, (Value.slice none 0 0))] w4) := Lib.hid (by
            obtain ⟨x0, x1, x2⟩ := three_cells X4
            obtain ⟨i0, i1, i2, i3, i4⟩ := five_box I4
            obtain ⟨j0, j1, j2, j3, j4⟩ := five_box J4
            obtain ⟨k0, k1, k2, k3, k4⟩ := five_box K4
            refine ⟨fun p hp => ?_, Below.refl _ _⟩
            simp only [List.mem_cons, List.not_mem_nil, or_false] at hp
            rcases hp with rfl | rfl | rfl | rfl | rfl | rfl | rfl | rfl | rfl | rfl | rfl | rfl | rfl | rfl | rfl | rfl | rfl | rfl <;> assumption)
          have HL : Hid (∀ p, p ∈ [(w.heap.size, 0, (Value.slice A S.defs.length k)), (w.heap.size, 1, (Value.string S.query)), (w.heap.size, 2, (Value.string S.mutation)), (gi, 0, (Value.int .i64 2)), (gi, 1, (Value.int .i64 n)), (gi, 2, (Value.string ⟨#[]⟩)), (gi, 3, (Value.slice none 0 0)), (gi, 4, (Value.slice none 0 0)), (gx, 0, (Value.int .i64 4)), (gx, 1, (Value.int .i64 0)), (gx, 2, (Value.string s)), (gx, 3, (Value.slice none 0 0)), (gx, 4, (Value.slice none 0 0)), (gy, 0, (Value.int .i64 1)), (gy, 1, (Value.int .i64 b)), (gy, 2, (Value.string ⟨#[]⟩)), (gy, 3, (Value.slice none 0 0)), (gy, 4, (Value.slice none 0 0))] → p.1 < w4.heap.size) := Lib.hid (fun p hp => by
            have l0 := (Array.getElem?_eq_some_iff.1 X4).1
            have l1 := (Array.getElem?_eq_some_iff.1 I4).1
            have l2 := (Array.getElem?_eq_some_iff.1 J4).1
            have l3 := (Array.getElem?_eq_some_iff.1 K4).1
            simp only [List.mem_cons, List.not_mem_nil, or_false] at hp
            rcases hp with rfl | rfl | rfl | rfl | rfl | rfl | rfl | rfl | rfl | rfl | rfl | rfl | rfl | rfl | rfl | rfl | rfl | rfl <;> assumption)
          clear X4 I4 J4 K4
          have RII := Lib.hid (fun (wx : World) (h : Below w.heap.size w wx) => leaf_right S _ _ _ nInt ⟨#[]⟩ 2 n _ (by omega) (by decide) (by decide) (v_ii S.defs n) wx w h HW.out HZZ.out HSS.out)
          have RIX := Lib.hid (fun (wx : World) (h : Below w.heap.size w wx) => leaf_right S _ _ _ nInt s 4 0 _ (by omega) (by decide) HS3.out (v_ix S.defs s) wx w h HW.out HZZ.out HSS.out)
          have RIY := Lib.hid (fun (wx : World) (h : Below w.heap.size w wx) => leaf_right S _ _ _ nInt ⟨#[]⟩ 1 b _ (by omega) (by decide) (by decide) (v_iy S.defs b) wx w h HW.out HZZ.out HSS.out)
          have RSX := Lib.hid (fun (wx : World) (h : Below w.heap.size w wx) => leaf_right S _ _ _ nStr s 4 0 _ (by omega) (by decide) HS3.out (v_sx S.defs s) wx w h HW.out HZZ.out HSS.out)
          have RSI := Lib.hid (fun (wx : World) (h : Below w.heap.size w wx) => leaf_right S _ _ _ nStr ⟨#[]⟩ 2 n _ (by omega) (by decide) (by decide) (v_si S.defs n) wx w h HW.out HZZ.out HSS.out)
          have RBY := Lib.hid (fun (wx : World) (h : Below w.heap.size w wx) => leaf_right S _ _ _ nBool ⟨#[]⟩ 1 b _ (by omega) (by decide) (by decide) (v_by S.defs b HB.out) wx w h HW.out HZZ.out HSS.out)
          have RBI := Lib.hid (fun (wx : World) (h : Below w.heap.size w wx) => leaf_right S _ _ _ nBool ⟨#[]⟩ 2 n _ (by omega) (by decide) (by decide) (v_bi S.defs n) wx w h HW.out HZZ.out HSS.out)
          have RDX := Lib.hid (fun (wx : World) (h : Below w.heap.size w wx) => leaf_right S _ _ _ nID s 4 0 _ (by omega) (by decide) HS3.out (v_dx S.defs s) wx w h HW.out HZZ.out HSS.out)
          have RDI := Lib.hid (fun (wx : World) (h : Below w.heap.size w wx) => leaf_right S _ _ _ nID ⟨#[]⟩ 2 n _ (by omega) (by decide) (by decide) (v_di S.defs n) wx w h HW.out HZZ.out HSS.out)
          have RDY := Lib.hid (fun (wx : World) (h : Below w.heap.size w wx) => leaf_right S _ _ _ nID ⟨#[]⟩ 1 b _ (by omega) (by decide) (by decide) (v_dy S.defs b) wx w h HW.out HZZ.out HSS.out)
          generalize goodB s.data.toList = gd at RSX RDX ⊢
          have eb : (gd == gd) = true := by simp
          clear HSS HZZ HB HS3
          go_upto_region 5 with fail
          rename_i K5 a5
          have key2 : ∀ (inb : Bool) (y14 y15 y16 y17 y18 y19 y20 y21 y22 y23 y24 y25 y26 y27 y28 y29 y30 y31 y32 y33 y34 y35 y36 y37 y38 y39 y40 y41 y42 y43 y44 : Value), Hid (∀ wx : World, Below w.heap.size w wx → Calls Tryz.prog 15 #[.agg #[.slice A S.defs.length k, .string S.query, .string S.mutation], .agg #[.string nInt, .int .i64 0, .int .i64 1], .agg #[.int .i64 2, .int .i64 n, .string ⟨#[]⟩, .slice none 0 0, .slice none 0 0]] wx fun e w' => e = .returned (.bool inb) ∧ Below wx.heap.size wx w') → K5 { tmps := #[.agg #[.slice A S.defs.length k, .string S.query, .string S.mutation], .int .i64 n, .string s, .int .i64 b, .pointer (some ⟨w.heap.size, 0, none⟩), undef, undef, undef, .bool false, .pointer (some ⟨gi, 0, none⟩), .pointer (some ⟨gx, 0, none⟩), .pointer (some ⟨gy, 0, none⟩), .bool gd, .bool inb, y14, y15, y16, y17, y18, y19, y20, y21, y22, y23, y24, y25, y26, y27, y28, y29, y30, y31, y32, y33, y34, y35, y36, y37, y38, y39, y40, y41, y42, y43, y44, undef, undef, undef, undef, undef, undef, undef, undef, undef, undef, undef, undef, undef, undef, undef, undef, undef, undef, undef, undef, undef, undef, undef, undef, undef, undef, undef, undef, undef, undef, undef, undef, undef, undef, undef, undef, undef, undef, undef, undef, undef, undef, undef, undef, undef, undef, undef, undef, undef, undef, undef, undef, undef, undef, undef, undef, undef, undef, undef, undef, undef, undef, undef, undef, undef, undef, undef, undef], defers := [] } w4 := by
            intro inb y14 y15 y16 y17 y18 y19 y20 y21 y22 y23 y24 y25 y26 y27 y28 y29 y30 y31 y32 y33 y34 y35 y36 y37 y38 y39 y40 y41 y42 y43 y44 RII
            refine a5 _ _ ?_
            clear a5
            go_upto_region 6 with fail
            refine wp_region_held_drew (S := (fun w' => w'.cell? ⟨w.heap.size, 0, none⟩ = some (Value.slice A S.defs.length k) ∧ w'.cell? ⟨w.heap.size, 1, none⟩ = some (Value.string S.query) ∧ w'.cell? ⟨w.heap.size, 2, none⟩ = some (Value.string S.mutation) ∧ w'.cell? ⟨gi, 0, none⟩ = some (Value.int .i64 2) ∧ w'.cell? ⟨gi, 1, none⟩ = some (Value.int .i64 n) ∧ w'.cell? ⟨gi, 2, none⟩ = some (Value.string ⟨#[]⟩) ∧ w'.cell? ⟨gi, 3, none⟩ = some (Value.slice none 0 0) ∧ w'.cell? ⟨gi, 4, none⟩ = some (Value.slice none 0 0) ∧ w'.cell? ⟨gx, 0, none⟩ = some (Value.int .i64 4) ∧ w'.cell? ⟨gx, 1, none⟩ = some (Value.int .i64 0) ∧ w'.cell? ⟨gx, 2, none⟩ = some (Value.string s) ∧ w'.cell? ⟨gx, 3, none⟩ = some (Value.slice none 0 0) ∧ w'.cell? ⟨gx, 4, none⟩ = some (Value.slice none 0 0) ∧ w'.cell? ⟨gy, 0, none⟩ = some (Value.int .i64 1) ∧ w'.cell? ⟨gy, 1, none⟩ = some (Value.int .i64 b) ∧ w'.cell? ⟨gy, 2, none⟩ = some (Value.string ⟨#[]⟩) ∧ w'.cell? ⟨gy, 3, none⟩ = some (Value.slice none 0 0) ∧ w'.cell? ⟨gy, 4, none⟩ = some (Value.slice none 0 0) ∧ QC w4 [(w.heap.size, 0, (Value.slice A S.defs.length k)), (w.heap.size, 1, (Value.string S.query)), (w.heap.size, 2, (Value.string S.mutation)), (gi, 0, (Value.int .i64 2)), (gi, 1, (Value.int .i64 n)), (gi, 2, (Value.string ⟨#[]⟩)), (gi, 3, (Value.slice none 0 0)), (gi, 4, (Value.slice none 0 0)), (gx, 0, (Value.int .i64 4)), (gx, 1, (Value.int .i64 0)), (gx, 2, (Value.string s)), (gx, 3, (Value.slice none 0 0)), (gx, 4, (Value.slice none 0 0)), (gy, 0, (Value.int .i64 1)), (gy, 1, (Value.int .i64 b)), (gy, 2, (Value.string ⟨#[]⟩)), (gy, 3, (Value.slice none 0 0)), (gy, 4, (Value.slice none 0 0))] w')) (by kernel_rfl) (q_written (HE.out.next HL.out (Below.drew (Below.refl _ _)))) (fun hHeld => ?_)
            refine wpAnyH_take (i := 0) (oi := _) (v := ?_) rfl (by kernel_rfl) (by kernel_rfl) (by kernel_rfl) (fun _ _ _ h => h) (Or.inl ⟨by rfl, ?_⟩) (by assumption) ?_
            rotate_left
            · (intro w hSw; (try dsimp only at hSw); go_simp; try with_reducible rfl)
            try simp only [Act.put, List.getElem_toArray, List.getElem_cons_zero, List.setIfInBounds_toArray, List.set_cons_zero, List.set_cons_succ]
            refine wpAnyH_take (i := 2) (oi := _) (v := ?_) rfl (by kernel_rfl) (by kernel_rfl) (by kernel_rfl) (fun _ _ _ h => h) (Or.inl ⟨by rfl, ?_⟩) (by assumption) ?_
            rotate_left
            · (intro w hSw; (try dsimp only at hSw); go_simp; try with_reducible rfl)
            try simp only [Act.put, List.getElem_toArray, List.getElem_cons_zero, List.getElem_cons_succ, List.setIfInBounds_toArray, List.set_cons_zero, List.set_cons_succ]
            refine wpAnyH_take (i := 4) (oi := _) (v := ?_) rfl (by kernel_rfl) (by kernel_rfl) (by kernel_rfl) (fun _ _ _ h => h) (Or.inl ⟨by rfl, ?_⟩) (by assumption) ?_
            rotate_left
            · (intro w hSw; (try dsimp only at hSw); go_simp; try with_reducible rfl)
            try simp only [Act.put, List.getElem_toArray, List.getElem_cons_zero, List.getElem_cons_succ, List.setIfInBounds_toArray, List.set_cons_zero, List.set_cons_succ]
            refine wpAnyH_ready (rs := [1]) (by kernel_rfl) (by simp) ?_
            refine AllReadyH.cons (o := _) rfl (fun K hK => ?_) AllReadyH.nil
            go_simp
            refine (must_any _ _).mono ?_
            rintro e w' ⟨rfl, hb⟩
            have HBN := Lib.hid hb
            go_wp2_with fail
            refine hK.out _ _ (q_written (QC.next (q_last (by assumption)) HL.out HBN.out)) (fun hHeld => ?_)
            clear hK K
            try simp only [Act.put, List.getElem_toArray, List.getElem_cons_zero, List.getElem_cons_succ, List.setIfInBounds_toArray, List.set_cons_zero, List.set_cons_succ]
            refine wpAnyH_ready (rs := [3]) (by kernel_rfl) (by simp) ?_
            refine AllReadyH.cons (o := _) rfl (fun K hK => ?_) AllReadyH.nil
            go_simp
            refine (RII.out _ (B4.out.trans (Below.mono (q_held (by assumption)) B4.out.size))).mono ?_
            rintro e w' ⟨rfl, hb⟩
            have HBN := Lib.hid hb
            go_wp2_with fail
            refine hK.out _ _ (q_written (QC.next (q_last (by assumption)) HL.out HBN.out)) (fun hHeld => ?_)
            clear hK K
            try simp only [Act.put, List.getElem_toArray, List.getElem_cons_zero, List.getElem_cons_succ, List.setIfInBounds_toArray, List.set_cons_zero, List.set_cons_succ]
            refine wpAnyH_take (i := 5) (oi := _) (v := ?_) rfl (by kernel_rfl) (by kernel_rfl) (by kernel_rfl) (fun _ _ _ h => h) (Or.inl ⟨by rfl, ?_⟩) (by assumption) ?_
            rotate_left
            · (intro w hSw; (try dsimp only at hSw); go_simp; try with_reducible rfl)
            try simp only [Act.put, List.getElem_toArray, List.getElem_cons_zero, List.getElem_cons_succ, List.setIfInBounds_toArray, List.set_cons_zero, List.set_cons_succ]
            refine wpAnyH_take (i := 6) (oi := _) (v := ?_) rfl (by kernel_rfl) (by kernel_rfl) (by kernel_rfl) (fun _ _ _ h => h) (Or.inl ⟨by rfl, ?_⟩) (by assumption) ?_
            rotate_left
            · (intro w hSw; (try dsimp only at hSw); go_simp; try with_reducible rfl)
            try simp only [Act.put, List.getElem_toArray, List.getElem_cons_zero, List.getElem_cons_succ, List.setIfInBounds_toArray, List.set_cons_zero, List.set_cons_succ]
            refine wpAnyH_take (i := 7) (oi := _) (v := ?_) rfl (by kernel_rfl) (by kernel_rfl) (by kernel_rfl) (fun _ _ _ h => h) (Or.inl ⟨by rfl, ?_⟩) (by assumption) ?_
            rotate_left
            · (intro w hSw; (try dsimp only at hSw); go_simp; try with_reducible rfl)
            try simp only [Act.put, List.getElem_toArray, List.getElem_cons_zero, List.getElem_cons_succ, List.setIfInBounds_toArray, List.set_cons_zero, List.set_cons_succ]
            refine wpAnyH_take (i := 9) (oi := _) (v := ?_) rfl (by kernel_rfl) (by kernel_rfl) (by kernel_rfl) (fun _ _ _ h => h) (Or.inl ⟨by rfl, ?_⟩) (by assumption) ?_
            rotate_left
            · (intro w hSw; (try dsimp only at hSw); go_simp; try with_reducible rfl)
            try simp only [Act.put, List.getElem_toArray, List.getElem_cons_zero, List.getElem_cons_succ, List.setIfInBounds_toArray, List.set_cons_zero, List.set_cons_succ]
            refine wpAnyH_ready (rs := [8]) (by kernel_rfl) (by simp) ?_
            refine AllReadyH.cons (o := _) rfl (fun K hK => ?_) AllReadyH.nil
            go_simp
            refine (must_any _ _).mono ?_
            rintro e w' ⟨rfl, hb⟩
            have HBN := Lib.hid hb
            go_wp2_with fail
            refine hK.out _ _ (q_written (QC.next (q_last (by assumption)) HL.out HBN.out)) (fun hHeld => ?_)
            clear hK K
            try simp only [Act.put, List.getElem_toArray, List.getElem_cons_zero, List.getElem_cons_succ, List.setIfInBounds_toArray, List.set_cons_zero, List.set_cons_succ]
            refine wpAnyH_ready (rs := [10]) (by kernel_rfl) (by simp) ?_
            refine AllReadyH.cons (o := _) rfl (fun K hK => ?_) AllReadyH.nil
            go_simp
            refine (RIX.out _ (B4.out.trans (Below.mono (q_held (by assumption)) B4.out.size))).mono ?_
            rintro e w' ⟨rfl, hb⟩
            have HBN := Lib.hid hb
            go_wp2_with fail
            refine hK.out _ _ (q_written (QC.next (q_last (by assumption)) HL.out HBN.out)) (fun hHeld => ?_)
            clear hK K
            try simp only [Act.put, List.getElem_toArray, List.getElem_cons_zero, List.getElem_cons_succ, List.setIfInBounds_toArray, List.set_cons_zero, List.set_cons_succ]
            refine wpAnyH_take (i := 11) (oi := _) (v := ?_) rfl (by kernel_rfl) (by kernel_rfl) (by kernel_rfl) (fun _ _ _ h => h) (Or.inl ⟨by rfl, ?_⟩) (by assumption) ?_
            rotate_left
            · (intro w hSw; (try dsimp only at hSw); go_simp; try with_reducible rfl)
            try simp only [Act.put, List.getElem_toArray, List.getElem_cons_zero, List.getElem_cons_succ, List.setIfInBounds_toArray, List.set_cons_zero, List.set_cons_succ]
            refine wpAnyH_take (i := 12) (oi := _) (v := ?_) rfl (by kernel_rfl) (by kernel_rfl) (by kernel_rfl) (fun _ _ _ h => h) (Or.inl ⟨by rfl, ?_⟩) (by assumption) ?_
            rotate_left
            · (intro w hSw; (try dsimp only at hSw); go_simp; try with_reducible rfl)
            try simp only [Act.put, List.getElem_toArray, List.getElem_cons_zero, List.getElem_cons_succ, List.setIfInBounds_toArray, List.set_cons_zero, List.set_cons_succ]
            refine wpAnyH_take (i := 13) (oi := _) (v := ?_) rfl (by kernel_rfl) (by kernel_rfl) (by kernel_rfl) (fun _ _ _ h => h) (Or.inl ⟨by rfl, ?_⟩) (by assumption) ?_
            rotate_left
            · (intro w hSw; (try dsimp only at hSw); go_simp; try with_reducible rfl)
            try simp only [Act.put, List.getElem_toArray, List.getElem_cons_zero, List.getElem_cons_succ, List.setIfInBounds_toArray, List.set_cons_zero, List.set_cons_succ]
            refine wpAnyH_take (i := 15) (oi := _) (v := ?_) rfl (by kernel_rfl) (by kernel_rfl) (by kernel_rfl) (fun _ _ _ h => h) (Or.inl ⟨by rfl, ?_⟩) (by assumption) ?_
            rotate_left
            · (intro w hSw; (try dsimp only at hSw); go_simp; try with_reducible rfl)
            try simp only [Act.put, List.getElem_toArray, List.getElem_cons_zero, List.getElem_cons_succ, List.setIfInBounds_toArray, List.set_cons_zero, List.set_cons_succ]
            refine wpAnyH_ready (rs := [14]) (by kernel_rfl) (by simp) ?_
            refine AllReadyH.cons (o := _) rfl (fun K hK => ?_) AllReadyH.nil
            go_simp
            refine (must_any _ _).mono ?_
            rintro e w' ⟨rfl, hb⟩
            have HBN := Lib.hid hb
            go_wp2_with fail
            refine hK.out _ _ (q_written (QC.next (q_last (by assumption)) HL.out HBN.out)) (fun hHeld => ?_)
            clear hK K
            try simp only [Act.put, List.getElem_toArray, List.getElem_cons_zero, List.getElem_cons_succ, List.setIfInBounds_toArray, List.set_cons_zero, List.set_cons_succ]
            refine wpAnyH_ready (rs := [16]) (by kernel_rfl) (by simp) ?_
            refine AllReadyH.cons (o := _) rfl (fun K hK => ?_) AllReadyH.nil
            go_simp
            refine (RIY.out _ (B4.out.trans (Below.mono (q_held (by assumption)) B4.out.size))).mono ?_
            rintro e w' ⟨rfl, hb⟩
            have HBN := Lib.hid hb
            go_wp2_with fail
            refine hK.out _ _ (q_written (QC.next (q_last (by assumption)) HL.out HBN.out)) (fun hHeld => ?_)
            clear hK K
            try simp only [Act.put, List.getElem_toArray, List.getElem_cons_zero, List.getElem_cons_succ, List.setIfInBounds_toArray, List.set_cons_zero, List.set_cons_succ]
            refine wpAnyH_take (i := 17) (oi := _) (v := ?_) rfl (by kernel_rfl) (by kernel_rfl) (by kernel_rfl) (fun _ _ _ h => h) (Or.inl ⟨by rfl, ?_⟩) (by assumption) ?_
            rotate_left
            · (intro w hSw; (try dsimp only at hSw); go_simp; try with_reducible rfl)
            try simp only [Act.put, List.getElem_toArray, List.getElem_cons_zero, List.getElem_cons_succ, List.setIfInBounds_toArray, List.set_cons_zero, List.set_cons_succ]
            refine wpAnyH_done (by kernel_rfl) ?_ _
            have HE6 := Lib.hid (q_last hHeld)
            clear hHeld
            go_upto_region 8 with fail
            refine wp_region_held_drew (S := (fun w' => w'.cell? ⟨w.heap.size, 0, none⟩ = some (Value.slice A S.defs.length k) ∧ w'.cell? ⟨w.heap.size, 1, none⟩ = some (Value.string S.query) ∧ w'.cell? ⟨w.heap.size, 2, none⟩ = some (Value.string S.mutation) ∧ w'.cell? ⟨gi, 0, none⟩ = some (Value.int .i64 2) ∧ w'.cell? ⟨gi, 1, none⟩ = some (Value.int .i64 n) ∧ w'.cell? ⟨gi, 2, none⟩ = some (Value.string ⟨#[]⟩) ∧ w'.cell? ⟨gi, 3, none⟩ = some (Value.slice none 0 0) ∧ w'.cell? ⟨gi, 4, none⟩ = some (Value.slice none 0 0) ∧ w'.cell? ⟨gx, 0, none⟩ = some (Value.int .i64 4) ∧ w'.cell? ⟨gx, 1, none⟩ = some (Value.int .i64 0) ∧ w'.cell? ⟨gx, 2, none⟩ = some (Value.string s) ∧ w'.cell? ⟨gx, 3, none⟩ = some (Value.slice none 0 0) ∧ w'.cell? ⟨gx, 4, none⟩ = some (Value.slice none 0 0) ∧ w'.cell? ⟨gy, 0, none⟩ = some (Value.int .i64 1) ∧ w'.cell? ⟨gy, 1, none⟩ = some (Value.int .i64 b) ∧ w'.cell? ⟨gy, 2, none⟩ = some (Value.string ⟨#[]⟩) ∧ w'.cell? ⟨gy, 3, none⟩ = some (Value.slice none 0 0) ∧ w'.cell? ⟨gy, 4, none⟩ = some (Value.slice none 0 0) ∧ QC w4 [(w.heap.size, 0, (Value.slice A S.defs.length k)), (w.heap.size, 1, (Value.string S.query)), (w.heap.size, 2, (Value.string S.mutation)), (gi, 0, (Value.int .i64 2)), (gi, 1, (Value.int .i64 n)), (gi, 2, (Value.string ⟨#[]⟩)), (gi, 3, (Value.slice none 0 0)), (gi, 4, (Value.slice none 0 0)), (gx, 0, (Value.int .i64 4)), (gx, 1, (Value.int .i64 0)), (gx, 2, (Value.string s)), (gx, 3, (Value.slice none 0 0)), (gx, 4, (Value.slice none 0 0)), (gy, 0, (Value.int .i64 1)), (gy, 1, (Value.int .i64 b)), (gy, 2, (Value.string ⟨#[]⟩)), (gy, 3, (Value.slice none 0 0)), (gy, 4, (Value.slice none 0 0))] w')) (by kernel_rfl) (q_written (HE6.out.next HL.out (Below.drew (Below.refl _ _)))) (fun hHeld => ?_)
            refine wpAnyH_take (i := 0) (oi := _) (v := ?_) rfl (by kernel_rfl) (by kernel_rfl) (by kernel_rfl) (fun _ _ _ h => h) (Or.inl ⟨by rfl, ?_⟩) (by assumption) ?_
            rotate_left
            · (intro w hSw; (try dsimp only at hSw); go_simp; try with_reducible rfl)
            try simp only [Act.put, List.getElem_toArray, List.getElem_cons_zero, List.setIfInBounds_toArray, List.set_cons_zero, List.set_cons_succ]
            refine wpAnyH_take (i := 2) (oi := _) (v := ?_) rfl (by kernel_rfl) (by kernel_rfl) (by kernel_rfl) (fun _ _ _ h => h) (Or.inl ⟨by rfl, ?_⟩) (by assumption) ?_
            rotate_left
            · (intro w hSw; (try dsimp only at hSw); go_simp; try with_reducible rfl)
            try simp only [Act.put, List.getElem_toArray, List.getElem_cons_zero, List.getElem_cons_succ, List.setIfInBounds_toArray, List.set_cons_zero, List.set_cons_succ]
            refine wpAnyH_take (i := 4) (oi := _) (v := ?_) rfl (by kernel_rfl) (by kernel_rfl) (by kernel_rfl) (fun _ _ _ h => h) (Or.inl ⟨by rfl, ?_⟩) (by assumption) ?_
            rotate_left
            · (intro w hSw; (try dsimp only at hSw); go_simp; try with_reducible rfl)
            try simp only [Act.put, List.getElem_toArray, List.getElem_cons_zero, List.getElem_cons_succ, List.setIfInBounds_toArray, List.set_cons_zero, List.set_cons_succ]
            refine wpAnyH_ready (rs := [1]) (by kernel_rfl) (by simp) ?_
            refine AllReadyH.cons (o := _) rfl (fun K hK => ?_) AllReadyH.nil
            go_simp
            refine (must_any _ _).mono ?_
            rintro e w' ⟨rfl, hb⟩
            have HBN := Lib.hid hb
            go_wp2_with fail
            refine hK.out _ _ (q_written (QC.next (q_last (by assumption)) HL.out HBN.out)) (fun hHeld => ?_)
            clear hK K
            try simp only [Act.put, List.getElem_toArray, List.getElem_cons_zero, List.getElem_cons_succ, List.setIfInBounds_toArray, List.set_cons_zero, List.set_cons_succ]
            refine wpAnyH_ready (rs := [3]) (by kernel_rfl) (by simp) ?_
            refine AllReadyH.cons (o := _) rfl (fun K hK => ?_) AllReadyH.nil
            go_simp
            refine (RSX.out _ (B4.out.trans (Below.mono (q_held (by assumption)) B4.out.size))).mono ?_
            rintro e w' ⟨rfl, hb⟩
            have HBN := Lib.hid hb
            go_wp2_with fail
            refine hK.out _ _ (q_written (QC.next (q_last (by assumption)) HL.out HBN.out)) (fun hHeld => ?_)
            clear hK K
            try simp only [Act.put, List.getElem_toArray, List.getElem_cons_zero, List.getElem_cons_succ, List.setIfInBounds_toArray, List.set_cons_zero, List.set_cons_succ]
            refine wpAnyH_take (i := 5) (oi := _) (v := ?_) rfl (by kernel_rfl) (by kernel_rfl) (by kernel_rfl) (fun _ _ _ h => h) (Or.inl ⟨by rfl, ?_⟩) (by assumption) ?_
            rotate_left
            · (intro w hSw; (try dsimp only at hSw); go_simp; try with_reducible rfl)
            try simp only [Act.put, List.getElem_toArray, List.getElem_cons_zero, List.getElem_cons_succ, List.setIfInBounds_toArray, List.set_cons_zero, List.set_cons_succ]
            refine wpAnyH_take (i := 6) (oi := _) (v := ?_) rfl (by kernel_rfl) (by kernel_rfl) (by kernel_rfl) (fun _ _ _ h => h) (Or.inl ⟨by rfl, ?_⟩) (by assumption) ?_
            rotate_left
            · (intro w hSw; (try dsimp only at hSw); go_simp; try with_reducible rfl)
            try simp only [Act.put, List.getElem_toArray, List.getElem_cons_zero, List.getElem_cons_succ, List.setIfInBounds_toArray, List.set_cons_zero, List.set_cons_succ]
            refine wpAnyH_take (i := 7) (oi := _) (v := ?_) rfl (by kernel_rfl) (by kernel_rfl) (by kernel_rfl) (fun _ _ _ h => h) (Or.inl ⟨by rfl, ?_⟩) (by assumption) ?_
            rotate_left
            · (intro w hSw; (try dsimp only at hSw); go_simp; try with_reducible rfl)
            try simp only [Act.put, List.getElem_toArray, List.getElem_cons_zero, List.getElem_cons_succ, List.setIfInBounds_toArray, List.set_cons_zero, List.set_cons_succ]
            refine wpAnyH_take (i := 9) (oi := _) (v := ?_) rfl (by kernel_rfl) (by kernel_rfl) (by kernel_rfl) (fun _ _ _ h => h) (Or.inl ⟨by rfl, ?_⟩) (by assumption) ?_
            rotate_left
            · (intro w hSw; (try dsimp only at hSw); go_simp; try with_reducible rfl)
            try simp only [Act.put, List.getElem_toArray, List.getElem_cons_zero, List.getElem_cons_succ, List.setIfInBounds_toArray, List.set_cons_zero, List.set_cons_succ]
            refine wpAnyH_ready (rs := [8]) (by kernel_rfl) (by simp) ?_
            refine AllReadyH.cons (o := _) rfl (fun K hK => ?_) AllReadyH.nil
            go_simp
            refine (must_any _ _).mono ?_
            rintro e w' ⟨rfl, hb⟩
            have HBN := Lib.hid hb
            go_wp2_with fail
            refine hK.out _ _ (q_written (QC.next (q_last (by assumption)) HL.out HBN.out)) (fun hHeld => ?_)
            clear hK K
            try simp only [Act.put, List.getElem_toArray, List.getElem_cons_zero, List.getElem_cons_succ, List.setIfInBounds_toArray, List.set_cons_zero, List.set_cons_succ]
            refine wpAnyH_ready (rs := [10]) (by kernel_rfl) (by simp) ?_
            refine AllReadyH.cons (o := _) rfl (fun K hK => ?_) AllReadyH.nil
            go_simp
            refine (RSI.out _ (B4.out.trans (Below.mono (q_held (by assumption)) B4.out.size))).mono ?_
            rintro e w' ⟨rfl, hb⟩
            have HBN := Lib.hid hb
            go_wp2_with fail
            refine hK.out _ _ (q_written (QC.next (q_last (by assumption)) HL.out HBN.out)) (fun hHeld => ?_)
            clear hK K
            try simp only [Act.put, List.getElem_toArray, List.getElem_cons_zero, List.getElem_cons_succ, List.setIfInBounds_toArray, List.set_cons_zero, List.set_cons_succ]
            refine wpAnyH_take (i := 11) (oi := _) (v := ?_) rfl (by kernel_rfl) (by kernel_rfl) (by kernel_rfl) (fun _ _ _ h => h) (Or.inl ⟨by rfl, ?_⟩) (by assumption) ?_
            rotate_left
            · (intro w hSw; (try dsimp only at hSw); go_simp; try with_reducible rfl)
            try simp only [Act.put, List.getElem_toArray, List.getElem_cons_zero, List.getElem_cons_succ, List.setIfInBounds_toArray, List.set_cons_zero, List.set_cons_succ]
            refine wpAnyH_take (i := 12) (oi := _) (v := ?_) rfl (by kernel_rfl) (by kernel_rfl) (by kernel_rfl) (fun _ _ _ h => h) (Or.inl ⟨by rfl, ?_⟩) (by assumption) ?_
            rotate_left
            · (intro w hSw; (try dsimp only at hSw); go_simp; try with_reducible rfl)
            try simp only [Act.put, List.getElem_toArray, List.getElem_cons_zero, List.getElem_cons_succ, List.setIfInBounds_toArray, List.set_cons_zero, List.set_cons_succ]
            refine wpAnyH_take (i := 13) (oi := _) (v := ?_) rfl (by kernel_rfl) (by kernel_rfl) (by kernel_rfl) (fun _ _ _ h => h) (Or.inl ⟨by rfl, ?_⟩) (by assumption) ?_
            rotate_left
            · (intro w hSw; (try dsimp only at hSw); go_simp; try with_reducible rfl)
            try simp only [Act.put, List.getElem_toArray, List.getElem_cons_zero, List.getElem_cons_succ, List.setIfInBounds_toArray, List.set_cons_zero, List.set_cons_succ]
            refine wpAnyH_take (i := 14) (oi := _) (v := ?_) rfl (by kernel_rfl) (by kernel_rfl) (by kernel_rfl) (fun _ _ _ h => h) (Or.inl ⟨by rfl, ?_⟩) (by assumption) ?_
            rotate_left
            · (intro w hSw; (try dsimp only at hSw); go_simp; try with_reducible rfl)
            try simp only [Act.put, List.getElem_toArray, List.getElem_cons_zero, List.getElem_cons_succ, List.setIfInBounds_toArray, List.set_cons_zero, List.set_cons_succ]
            refine wpAnyH_take (i := 16) (oi := _) (v := ?_) rfl (by kernel_rfl) (by kernel_rfl) (by kernel_rfl) (fun _ _ _ h => h) (Or.inl ⟨by rfl, ?_⟩) (by assumption) ?_
            rotate_left
            · (intro w hSw; (try dsimp only at hSw); go_simp; try with_reducible rfl)
            try simp only [Act.put, List.getElem_toArray, List.getElem_cons_zero, List.getElem_cons_succ, List.setIfInBounds_toArray, List.set_cons_zero, List.set_cons_succ]
            refine wpAnyH_ready (rs := [15]) (by kernel_rfl) (by simp) ?_
            refine AllReadyH.cons (o := _) rfl (fun K hK => ?_) AllReadyH.nil
            go_simp
            refine (must_any _ _).mono ?_
            rintro e w' ⟨rfl, hb⟩
            have HBN := Lib.hid hb
            go_wp2_with fail
            refine hK.out _ _ (q_written (QC.next (q_last (by assumption)) HL.out HBN.out)) (fun hHeld => ?_)
            clear hK K
            try simp only [Act.put, List.getElem_toArray, List.getElem_cons_zero, List.getElem_cons_succ, List.setIfInBounds_toArray, List.set_cons_zero, List.set_cons_succ]
            refine wpAnyH_ready (rs := [17]) (by kernel_rfl) (by simp) ?_
            refine AllReadyH.cons (o := _) rfl (fun K hK => ?_) AllReadyH.nil
            go_simp
            refine (RBY.out _ (B4.out.trans (Below.mono (q_held (by assumption)) B4.out.size))).mono ?_
            rintro e w' ⟨rfl, hb⟩
            have HBN := Lib.hid hb
            go_wp2_with fail
            refine hK.out _ _ (q_written (QC.next (q_last (by assumption)) HL.out HBN.out)) (fun hHeld => ?_)
            clear hK K
            try simp only [Act.put, List.getElem_toArray, List.getElem_cons_zero, List.getElem_cons_succ, List.setIfInBounds_toArray, List.set_cons_zero, List.set_cons_succ]
            refine wpAnyH_take (i := 18) (oi := _) (v := ?_) rfl (by kernel_rfl) (by kernel_rfl) (by kernel_rfl) (fun _ _ _ h => h) (Or.inl ⟨by rfl, ?_⟩) (by assumption) ?_
            rotate_left
            · (intro w hSw; (try dsimp only at hSw); go_simp; try with_reducible rfl)
            try simp only [Act.put, List.getElem_toArray, List.getElem_cons_zero, List.getElem_cons_succ, List.setIfInBounds_toArray, List.set_cons_zero, List.set_cons_succ]
            refine wpAnyH_take (i := 19) (oi := _) (v := ?_) rfl (by kernel_rfl) (by kernel_rfl) (by kernel_rfl) (fun _ _ _ h => h) (Or.inl ⟨by rfl, ?_⟩) (by assumption) ?_
            rotate_left
            · (intro w hSw; (try dsimp only at hSw); go_simp; try with_reducible rfl)
            try simp only [Act.put, List.getElem_toArray, List.getElem_cons_zero, List.getElem_cons_succ, List.setIfInBounds_toArray, List.set_cons_zero, List.set_cons_succ]
            refine wpAnyH_take (i := 20) (oi := _) (v := ?_) rfl (by kernel_rfl) (by kernel_rfl) (by kernel_rfl) (fun _ _ _ h => h) (Or.inl ⟨by rfl, ?_⟩) (by assumption) ?_
            rotate_left
            · (intro w hSw; (try dsimp only at hSw); go_simp; try with_reducible rfl)
            try simp only [Act.put, List.getElem_toArray, List.getElem_cons_zero, List.getElem_cons_succ, List.setIfInBounds_toArray, List.set_cons_zero, List.set_cons_succ]
            refine wpAnyH_take (i := 22) (oi := _) (v := ?_) rfl (by kernel_rfl) (by kernel_rfl) (by kernel_rfl) (fun _ _ _ h => h) (Or.inl ⟨by rfl, ?_⟩) (by assumption) ?_
            rotate_left
            · (intro w hSw; (try dsimp only at hSw); go_simp; try with_reducible rfl)
            try simp only [Act.put, List.getElem_toArray, List.getElem_cons_zero, List.getElem_cons_succ, List.setIfInBounds_toArray, List.set_cons_zero, List.set_cons_succ]
            refine wpAnyH_ready (rs := [21]) (by kernel_rfl) (by simp) ?_
            refine AllReadyH.cons (o := _) rfl (fun K hK => ?_) AllReadyH.nil
            go_simp
            refine (must_any _ _).mono ?_
            rintro e w' ⟨rfl, hb⟩
            have HBN := Lib.hid hb
            go_wp2_with fail
            refine hK.out _ _ (q_written (QC.next (q_last (by assumption)) HL.out HBN.out)) (fun hHeld => ?_)
            clear hK K
            try simp only [Act.put, List.getElem_toArray, List.getElem_cons_zero, List.getElem_cons_succ, List.setIfInBounds_toArray, List.set_cons_zero, List.set_cons_succ]
            refine wpAnyH_ready (rs := [23]) (by kernel_rfl) (by simp) ?_
            refine AllReadyH.cons (o := _) rfl (fun K hK => ?_) AllReadyH.nil
            go_simp
            refine (RBI.out _ (B4.out.trans (Below.mono (q_held (by assumption)) B4.out.size))).mono ?_
            rintro e w' ⟨rfl, hb⟩
            have HBN := Lib.hid hb
            go_wp2_with fail
            refine hK.out _ _ (q_written (QC.next (q_last (by assumption)) HL.out HBN.out)) (fun hHeld => ?_)
            clear hK K
            try simp only [Act.put, List.getElem_toArray, List.getElem_cons_zero, List.getElem_cons_succ, List.setIfInBounds_toArray, List.set_cons_zero, List.set_cons_succ]
            refine wpAnyH_take (i := 24) (oi := _) (v := ?_) rfl (by kernel_rfl) (by kernel_rfl) (by kernel_rfl) (fun _ _ _ h => h) (Or.inl ⟨by rfl, ?_⟩) (by assumption) ?_
            rotate_left
            · (intro w hSw; (try dsimp only at hSw); go_simp; try with_reducible rfl)
            try simp only [Act.put, List.getElem_toArray, List.getElem_cons_zero, List.getElem_cons_succ, List.setIfInBounds_toArray, List.set_cons_zero, List.set_cons_succ]
            refine wpAnyH_take (i := 25) (oi := _) (v := ?_) rfl (by kernel_rfl) (by kernel_rfl) (by kernel_rfl) (fun _ _ _ h => h) (Or.inl ⟨by rfl, ?_⟩) (by assumption) ?_
            rotate_left
            · (intro w hSw; (try dsimp only at hSw); go_simp; try with_reducible rfl)
            try simp only [Act.put, List.getElem_toArray, List.getElem_cons_zero, List.getElem_cons_succ, List.setIfInBounds_toArray, List.set_cons_zero, List.set_cons_succ]
            refine wpAnyH_take (i := 26) (oi := _) (v := ?_) rfl (by kernel_rfl) (by kernel_rfl) (by kernel_rfl) (fun _ _ _ h => h) (Or.inl ⟨by rfl, ?_⟩) (by assumption) ?_
            rotate_left
            · (intro w hSw; (try dsimp only at hSw); go_simp; try with_reducible rfl)
            try simp only [Act.put, List.getElem_toArray, List.getElem_cons_zero, List.getElem_cons_succ, List.setIfInBounds_toArray, List.set_cons_zero, List.set_cons_succ]
            refine wpAnyH_take (i := 27) (oi := _) (v := ?_) rfl (by kernel_rfl) (by kernel_rfl) (by kernel_rfl) (fun _ _ _ h => h) (Or.inl ⟨by rfl, ?_⟩) (by assumption) ?_
            rotate_left
            · (intro w hSw; (try dsimp only at hSw); go_simp; try with_reducible rfl)
            try simp only [Act.put, List.getElem_toArray, List.getElem_cons_zero, List.getElem_cons_succ, List.setIfInBounds_toArray, List.set_cons_zero, List.set_cons_succ]
            refine wpAnyH_take (i := 29) (oi := _) (v := ?_) rfl (by kernel_rfl) (by kernel_rfl) (by kernel_rfl) (fun _ _ _ h => h) (Or.inl ⟨by rfl, ?_⟩) (by assumption) ?_
            rotate_left
            · (intro w hSw; (try dsimp only at hSw); go_simp; try with_reducible rfl)
            try simp only [Act.put, List.getElem_toArray, List.getElem_cons_zero, List.getElem_cons_succ, List.setIfInBounds_toArray, List.set_cons_zero, List.set_cons_succ]
            refine wpAnyH_take (i := 31) (oi := _) (v := ?_) rfl (by kernel_rfl) (by kernel_rfl) (by kernel_rfl) (fun _ _ _ h => h) (Or.inl ⟨by rfl, ?_⟩) (by assumption) ?_
            rotate_left
            · (intro w hSw; (try dsimp only at hSw); go_simp; try with_reducible rfl)
            try simp only [Act.put, List.getElem_toArray, List.getElem_cons_zero, List.getElem_cons_succ, List.setIfInBounds_toArray, List.set_cons_zero, List.set_cons_succ]
            refine wpAnyH_ready (rs := [28]) (by kernel_rfl) (by simp) ?_
            refine AllReadyH.cons (o := _) rfl (fun K hK => ?_) AllReadyH.nil
            go_simp
            refine (must_any _ _).mono ?_
            rintro e w' ⟨rfl, hb⟩
            have HBN := Lib.hid hb
            go_wp2_with fail
            refine hK.out _ _ (q_written (QC.next (q_last (by assumption)) HL.out HBN.out)) (fun hHeld => ?_)
            clear hK K
            try simp only [Act.put, List.getElem_toArray, List.getElem_cons_zero, List.getElem_cons_succ, List.setIfInBounds_toArray, List.set_cons_zero, List.set_cons_succ]
            refine wpAnyH_ready (rs := [30]) (by kernel_rfl) (by simp) ?_
            refine AllReadyH.cons (o := _) rfl (fun K hK => ?_) AllReadyH.nil
            go_simp
            refine (RDX.out _ (B4.out.trans (Below.mono (q_held (by assumption)) B4.out.size))).mono ?_
            rintro e w' ⟨rfl, hb⟩
            have HBN := Lib.hid hb
            go_wp2_with fail
            refine hK.out _ _ (q_written (QC.next (q_last (by assumption)) HL.out HBN.out)) (fun hHeld => ?_)
            clear hK K
            try simp only [Act.put, List.getElem_toArray, List.getElem_cons_zero, List.getElem_cons_succ, List.setIfInBounds_toArray, List.set_cons_zero, List.set_cons_succ]
            refine wpAnyH_take (i := 32) (oi := _) (v := ?_) rfl (by kernel_rfl) (by kernel_rfl) (by kernel_rfl) (fun _ _ _ h => h) (Or.inl ⟨by rfl, ?_⟩) (by assumption) ?_
            rotate_left
            · (intro w hSw; (try dsimp only at hSw); go_simp; try with_reducible rfl)
            try simp only [Act.put, List.getElem_toArray, List.getElem_cons_zero, List.getElem_cons_succ, List.setIfInBounds_toArray, List.set_cons_zero, List.set_cons_succ]
            refine wpAnyH_take (i := 33) (oi := _) (v := ?_) rfl (by kernel_rfl) (by kernel_rfl) (by kernel_rfl) (fun _ _ _ h => h) (Or.inl ⟨by rfl, ?_⟩) (by assumption) ?_
            rotate_left
            · (intro w hSw; (try dsimp only at hSw); go_simp; try with_reducible rfl)
            try simp only [Act.put, List.getElem_toArray, List.getElem_cons_zero, List.getElem_cons_succ, List.setIfInBounds_toArray, List.set_cons_zero, List.set_cons_succ]
            refine wpAnyH_take (i := 34) (oi := _) (v := ?_) rfl (by kernel_rfl) (by kernel_rfl) (by kernel_rfl) (fun _ _ _ h => h) (Or.inl ⟨by rfl, ?_⟩) (by assumption) ?_
            rotate_left
            · (intro w hSw; (try dsimp only at hSw); go_simp; try with_reducible rfl)
            try simp only [Act.put, List.getElem_toArray, List.getElem_cons_zero, List.getElem_cons_succ, List.setIfInBounds_toArray, List.set_cons_zero, List.set_cons_succ]
            refine wpAnyH_take (i := 35) (oi := _) (v := ?_) rfl (by kernel_rfl) (by kernel_rfl) (by kernel_rfl) (fun _ _ _ h => h) (Or.inl ⟨by rfl, ?_⟩) (by assumption) ?_
            rotate_left
            · (intro w hSw; (try dsimp only at hSw); go_simp; try with_reducible rfl)
            try simp only [Act.put, List.getElem_toArray, List.getElem_cons_zero, List.getElem_cons_succ, List.setIfInBounds_toArray, List.set_cons_zero, List.set_cons_succ]
            refine wpAnyH_take (i := 37) (oi := _) (v := ?_) rfl (by kernel_rfl) (by kernel_rfl) (by kernel_rfl) (fun _ _ _ h => h) (Or.inl ⟨by rfl, ?_⟩) (by assumption) ?_
            rotate_left
            · (intro w hSw; (try dsimp only at hSw); go_simp; try with_reducible rfl)
            try simp only [Act.put, List.getElem_toArray, List.getElem_cons_zero, List.getElem_cons_succ, List.setIfInBounds_toArray, List.set_cons_zero, List.set_cons_succ]
            refine wpAnyH_ready (rs := [36]) (by kernel_rfl) (by simp) ?_
            refine AllReadyH.cons (o := _) rfl (fun K hK => ?_) AllReadyH.nil
            go_simp
            refine (must_any _ _).mono ?_
            rintro e w' ⟨rfl, hb⟩
            have HBN := Lib.hid hb
            go_wp2_with fail
            refine hK.out _ _ (q_written (QC.next (q_last (by assumption)) HL.out HBN.out)) (fun hHeld => ?_)
            clear hK K
            try simp only [Act.put, List.getElem_toArray, List.getElem_cons_zero, List.getElem_cons_succ, List.setIfInBounds_toArray, List.set_cons_zero, List.set_cons_succ]
            refine wpAnyH_ready (rs := [38]) (by kernel_rfl) (by simp) ?_
            refine AllReadyH.cons (o := _) rfl (fun K hK => ?_) AllReadyH.nil
            go_simp
            refine (RDI.out _ (B4.out.trans (Below.mono (q_held (by assumption)) B4.out.size))).mono ?_
            rintro e w' ⟨rfl, hb⟩
            have HBN := Lib.hid hb
            go_wp2_with fail
            refine hK.out _ _ (q_written (QC.next (q_last (by assumption)) HL.out HBN.out)) (fun hHeld => ?_)
            clear hK K
            try simp only [Act.put, List.getElem_toArray, List.getElem_cons_zero, List.getElem_cons_succ, List.setIfInBounds_toArray, List.set_cons_zero, List.set_cons_succ]
            refine wpAnyH_take (i := 39) (oi := _) (v := ?_) rfl (by kernel_rfl) (by kernel_rfl) (by kernel_rfl) (fun _ _ _ h => h) (Or.inl ⟨by rfl, ?_⟩) (by assumption) ?_
            rotate_left
            · (intro w hSw; (try dsimp only at hSw); go_simp; try with_reducible rfl)
            try simp only [Act.put, List.getElem_toArray, List.getElem_cons_zero, List.getElem_cons_succ, List.setIfInBounds_toArray, List.set_cons_zero, List.set_cons_succ]
            refine wpAnyH_take (i := 40) (oi := _) (v := ?_) rfl (by kernel_rfl) (by kernel_rfl) (by kernel_rfl) (fun _ _ _ h => h) (Or.inl ⟨by rfl, ?_⟩) (by assumption) ?_
            rotate_left
            · (intro w hSw; (try dsimp only at hSw); go_simp; try with_reducible rfl)
            try simp only [Act.put, List.getElem_toArray, List.getElem_cons_zero, List.getElem_cons_succ, List.setIfInBounds_toArray, List.set_cons_zero, List.set_cons_succ]
            refine wpAnyH_take (i := 41) (oi := _) (v := ?_) rfl (by kernel_rfl) (by kernel_rfl) (by kernel_rfl) (fun _ _ _ h => h) (Or.inl ⟨by rfl, ?_⟩) (by assumption) ?_
            rotate_left
            · (intro w hSw; (try dsimp only at hSw); go_simp; try with_reducible rfl)
            try simp only [Act.put, List.getElem_toArray, List.getElem_cons_zero, List.getElem_cons_succ, List.setIfInBounds_toArray, List.set_cons_zero, List.set_cons_succ]
            refine wpAnyH_take (i := 43) (oi := _) (v := ?_) rfl (by kernel_rfl) (by kernel_rfl) (by kernel_rfl) (fun _ _ _ h => h) (Or.inl ⟨by rfl, ?_⟩) (by assumption) ?_
            rotate_left
            · (intro w hSw; (try dsimp only at hSw); go_simp; try with_reducible rfl)
            try simp only [Act.put, List.getElem_toArray, List.getElem_cons_zero, List.getElem_cons_succ, List.setIfInBounds_toArray, List.set_cons_zero, List.set_cons_succ]
            refine wpAnyH_ready (rs := [42]) (by kernel_rfl) (by simp) ?_
            refine AllReadyH.cons (o := _) rfl (fun K hK => ?_) AllReadyH.nil
            go_simp
            refine (must_any _ _).mono ?_
            rintro e w' ⟨rfl, hb⟩
            have HBN := Lib.hid hb
            go_wp2_with fail
            refine hK.out _ _ (q_written (QC.next (q_last (by assumption)) HL.out HBN.out)) (fun hHeld => ?_)
            clear hK K
            try simp only [Act.put, List.getElem_toArray, List.getElem_cons_zero, List.getElem_cons_succ, List.setIfInBounds_toArray, List.set_cons_zero, List.set_cons_succ]
            refine wpAnyH_ready (rs := [44]) (by kernel_rfl) (by simp) ?_
            refine AllReadyH.cons (o := _) rfl (fun K hK => ?_) AllReadyH.nil
            go_simp
            refine (RDY.out _ (B4.out.trans (Below.mono (q_held (by assumption)) B4.out.size))).mono ?_
            rintro e w' ⟨rfl, hb⟩
            have HBN := Lib.hid hb
            go_wp2_with fail
            refine hK.out _ _ (q_written (QC.next (q_last (by assumption)) HL.out HBN.out)) (fun hHeld => ?_)
            clear hK K
            try simp only [Act.put, List.getElem_toArray, List.getElem_cons_zero, List.getElem_cons_succ, List.setIfInBounds_toArray, List.set_cons_zero, List.set_cons_succ]
            refine wpAnyH_take (i := 45) (oi := _) (v := ?_) rfl (by kernel_rfl) (by kernel_rfl) (by kernel_rfl) (fun _ _ _ h => h) (Or.inl ⟨by rfl, ?_⟩) (by assumption) ?_
            rotate_left
            · (intro w hSw; (try dsimp only at hSw); go_simp; try with_reducible rfl)
            try simp only [Act.put, List.getElem_toArray, List.getElem_cons_zero, List.getElem_cons_succ, List.setIfInBounds_toArray, List.set_cons_zero, List.set_cons_succ]
            refine wpAnyH_take (i := 46) (oi := _) (v := ?_) rfl (by kernel_rfl) (by kernel_rfl) (by kernel_rfl) (fun _ _ _ h => h) (Or.inl ⟨by rfl, ?_⟩) (by assumption) ?_
            rotate_left
            · (intro w hSw; (try dsimp only at hSw); go_simp; try with_reducible rfl)
            try simp only [Act.put, List.getElem_toArray, List.getElem_cons_zero, List.getElem_cons_succ, List.setIfInBounds_toArray, List.set_cons_zero, List.set_cons_succ]
            refine wpAnyH_take (i := 47) (oi := _) (v := ?_) rfl (by kernel_rfl) (by kernel_rfl) (by kernel_rfl) (fun _ _ _ h => h) (Or.inl ⟨by rfl, ?_⟩) (by assumption) ?_
            rotate_left
            · (intro w hSw; (try dsimp only at hSw); go_simp; try with_reducible rfl)
            try simp only [Act.put, List.getElem_toArray, List.getElem_cons_zero, List.getElem_cons_succ, List.setIfInBounds_toArray, List.set_cons_zero, List.set_cons_succ]
            refine wpAnyH_ready (rs := [48]) (by kernel_rfl) (by simp) ?_
            refine AllReadyH.cons (o := _) rfl (fun K hK => ?_) AllReadyH.nil
            go_simp
            refine (awake_any _ (HW.out.below (B4.out.trans (Below.mono (q_held (by assumption)) B4.out.size)))).mono ?_
            rintro e w' ⟨rfl, hb⟩
            have HBN := Lib.hid hb
            go_wp2_with fail
            refine hK.out _ _ (q_written (QC.next (q_last (by assumption)) HL.out HBN.out)) (fun hHeld => ?_)
            clear hK K
            try simp only [Act.put, List.getElem_toArray, List.getElem_cons_zero, List.getElem_cons_succ, List.setIfInBounds_toArray, List.set_cons_zero, List.set_cons_succ]
            refine wpAnyH_take (i := 49) (oi := _) (v := ?_) rfl (by kernel_rfl) (by kernel_rfl) (by kernel_rfl) (fun _ _ _ h => h) (Or.inl ⟨by rfl, ?_⟩) (by assumption) ?_
            rotate_left
            · (intro w hSw; (try dsimp only at hSw); go_simp; try with_reducible rfl)
            try simp only [Act.put, List.getElem_toArray, List.getElem_cons_zero, List.getElem_cons_succ, List.setIfInBounds_toArray, List.set_cons_zero, List.set_cons_succ]
            refine wpAnyH_take (i := 50) (oi := _) (v := ?_) rfl (by kernel_rfl) (by kernel_rfl) (by kernel_rfl) (fun _ _ _ h => h) (Or.inl ⟨by rfl, ?_⟩) (by assumption) ?_
            rotate_left
            · (intro w hSw; (try dsimp only at hSw); go_simp; try with_reducible rfl)
            try simp only [Act.put, List.getElem_toArray, List.getElem_cons_zero, List.getElem_cons_succ, List.setIfInBounds_toArray, List.set_cons_zero, List.set_cons_succ]
            refine wpAnyH_done (by kernel_rfl) ?_ _
            have B9 := Lib.hid (B4.out.trans ((q_held hHeld).mono B4.out.size))
            clear hHeld
            go_wp2_with fail
            go_ret
            exact ⟨rfl, B9.out⟩
          clear a5
          by_cases h1 : -2147483648 ≤ n
          · by_cases h2 : n ≤ 2147483647
            · have ev : (decide (-2147483648 ≤ n) && decide (n ≤ 2147483647)) = true := by simp [h1, h2]
              rw [ev] at RII
              have k2 := Lib.hid (fun y14 y15 y16 y17 y18 y19 y20 y21 y22 y23 y24 y25 y26 y27 y28 y29 y30 y31 y32 y33 y34 y35 y36 y37 y38 y39 y40 y41 y42 y43 y44 => key2 true y14 y15 y16 y17 y18 y19 y20 y21 y22 y23 y24 y25 y26 y27 y28 y29 y30 y31 y32 y33 y34 y35 y36 y37 y38 y39 y40 y41 y42 y43 y44 RII)
              clear ev RII key2
              go_wp2_with fail
              exact k2.out _ _ _ _ _ _ _ _ _ _ _ _ _ _ _ _ _ _ _ _ _ _ _ _ _ _ _ _ _ _ _
            · have ev : (decide (-2147483648 ≤ n) && decide (n ≤ 2147483647)) = false := by simp [h1, h2]
              rw [ev] at RII
              have k2 := Lib.hid (fun y14 y15 y16 y17 y18 y19 y20 y21 y22 y23 y24 y25 y26 y27 y28 y29 y30 y31 y32 y33 y34 y35 y36 y37 y38 y39 y40 y41 y42 y43 y44 => key2 false y14 y15 y16 y17 y18 y19 y20 y21 y22 y23 y24 y25 y26 y27 y28 y29 y30 y31 y32 y33 y34 y35 y36 y37 y38 y39 y40 y41 y42 y43 y44 RII)
              clear ev RII key2
              go_wp2_with fail
              exact k2.out _ _ _ _ _ _ _ _ _ _ _ _ _ _ _ _ _ _ _ _ _ _ _ _ _ _ _ _ _ _ _
          · have ev : (decide (-2147483648 ≤ n) && decide (n ≤ 2147483647)) = false := by simp [h1]
            rw [ev] at RII
            have k2 := Lib.hid (fun y14 y15 y16 y17 y18 y19 y20 y21 y22 y23 y24 y25 y26 y27 y28 y29 y30 y31 y32 y33 y34 y35 y36 y37 y38 y39 y40 y41 y42 y43 y44 => key2 false y14 y15 y16 y17 y18 y19 y20 y21 y22 y23 y24 y25 y26 y27 y28 y29 y30 y31 y32 y33 y34 y35 y36 y37 y38 y39 y40 y41 y42 y43 y44 RII)
            clear ev RII key2
            go_wp2_with fail
            exact k2.out _ _ _ _ _ _ _ _ _ _ _ _ _ _ _ _ _ _ _ _ _ _ _ _ _ _ _ _ _ _ _
        have KK := Lib.hid key1
        clear a2 key1
        rcases hcs.out with eb0 | ⟨eb0, eb1⟩
        · go_wp2_with fail
          exact KK.out _ _ _ _ _ _ _ _ _ _ _ _ _ _ _ _
        · go_wp2_with fail
          exact KK.out _ _ _ _ _ _ _ _ _ _ _ _ _ _ _ _
      · have hb1 : ¬ b = 0 := fun h => hb (.inl h)
        have hb2 : ¬ b = 1 := fun h => hb (.inr h)
        have hb0 : (b != 0 && b != 1) = true := by simp; omega
        clear hb
        go_wp2_with fail
        refine (awake_any w1 (HW.out.below B1.out)).mono ?_
        rintro e w2 ⟨rfl, hb2⟩
        have B2 := Lib.hid (B1.out.trans (hb2.mono B1.out.size))
        clear hb2
        go_wp2_with fail
        go_ret
        exact ⟨rfl, B2.out⟩
end Go.Proofs.YtmamgaifpjgfkaaGreatDoor.LLInts
