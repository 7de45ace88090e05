/- The walk of the law DefsFields. -/
import Derived.Test.YtiponpcglienpaaDfRef5
import Derived.Test.YtiponpcglienpaaSdSameF
import Derived.Test.YtiponpcglienpaaDfLightS
import Derived.Test.YtiponpcglienpaaDfAwake
namespace Go.Proofs.Ytiponpcglienpaa.LDFields
open Go.RowKit

theorem tname_field {l : List DefnT} {t : ByteArray} (h : compD l t = true) : fieldD l t tnameB = (⟨tnameB, [], strB, 0, 1, []⟩, true) := by
  unfold fieldD
  rw [if_pos ⟨by decide +kernel, h⟩]
theorem tname_none {l : List DefnT} {t : ByteArray} (h : compD l t = false) : fieldD l t tnameB = (zeroF, false) := by
  unfold fieldD
  rw [if_neg (by rw [h]; simp), if_neg]
  rw [isD_two]
  intro e
  rw [Bool.and_eq_true, Bool.or_eq_true] at e
  obtain ⟨e1, e2⟩ := e
  unfold compD isD hasI at h
  rw [e1] at h
  simp at h
  rcases e2 with e2 | e2
  · simp at e2; exact h.1 e2.symm
  · simp at e2; exact h.2.1 e2.symm
/-- A field's box and the schema's: what stands while the law goes on. -/
structure LK (w : World) (c0 c1 c2 : Value) (W : World) : Prop where
  low : Below w.heap.size w W
  box : W.heap[w.heap.size]? = some (.cells #[c0, c1, c2] 24 (0, 0))
theorem LK.next {w W W' : World} {c0 c1 c2 : Value} (h : LK w c0 c1 c2 W) (hb : Below W.heap.size W W') : LK w c0 c1 c2 W' :=
  ⟨h.low.trans (hb.mono h.low.size), (hb.block _ (Array.getElem?_eq_some_iff.1 h.box).1).trans h.box⟩
theorem block_on {W W' : World} {g : Nat} {o : Obj} (h : W.heap[g]? = some o) (hb : Below W.heap.size W W') : W'.heap[g]? = some o := (hb.block _ (Array.getElem?_eq_some_iff.1 h).1).trans h
theorem ts_on {W W' : World} {s : TrS} {cs : List Value} (h : TS W (fun b => b < W.heap.size) s cs) (hb : Below W.heap.size W W') : TS W' (fun b => b < W'.heap.size) s cs := TS.keep (fun b hx => ⟨Nat.lt_of_lt_of_le hx hb.size, hb.block b hx⟩) _ _ h
theorem field_pair {W : World} {x : FieldT} {Ap Ad : Option Addr} {kp kd : Nat} (h : TS W (fun b => b < W.heap.size) (encField x) [.string x.name, .slice Ap x.params.length kp, .string x.tn, .int .i64 x.tl, .int .i64 x.tm, .slice Ad x.dirs.length kd]) : FieldAt W W.heap.size x.params x.dirs Ap Ad := by
  obtain ⟨Ap', kp', Ad', kd', e, _, ⟨l1, h1⟩, l5, h5⟩ := fld_cells h
  simp only [List.cons.injEq, Value.slice.injEq, and_true, true_and] at e
  obtain ⟨⟨rfl, rfl⟩, rfl, rfl⟩ := e
  exact ⟨l1, l5, h1, h5⟩
set_option maxRecDepth 100000 in
set_option maxHeartbeats 8000000 in
theorem walk (w : World) (S : SchT) (c0 c1 c2 : Value) (hS : TS w (fun b => b < w.heap.size) (encSch S) [c0, c1, c2]) (hz : SlimS S) (t : ByteArray) (ht : t.size ≤ 140737488355328) (n : ByteArray) (hn : n.size ≤ 140737488355328) :
    Calls Try.prog 4 #[.agg #[c0, c1, c2], .string t, .string n] w fun e w' => e = .returned (.bool true) ∧ Below w.heap.size w w' := by
  have L := Lib.hid (fun (wx : World) (h : Below w.heap.size w wx) => light_any S c0 c1 c2 wx w.heap.size h.size (TS.low h hS))
  have F1 := Lib.hid (fun (wx : World) (h : Below w.heap.size w wx) => field_any S t n c0 c1 c2 wx w.heap.size h.size (by omega) hz (TS.low h hS))
  have F2 := Lib.hid (fun (wx : World) (h : Below w.heap.size w wx) => rfield_any S t n c0 c1 c2 wx w.heap.size h.size (by omega) (TS.low h hS))
  have F3 := Lib.hid (fun (wx : World) (h : Below w.heap.size w wx) => field_any S t tnameB c0 c1 c2 wx w.heap.size h.size (by omega) hz (TS.low h hS))
  have CO := Lib.hid (fun (wx : World) (h : Below w.heap.size w wx) => composite_any S t c0 c1 c2 wx w.heap.size h.size (by omega) (TS.low h hS))
  obtain ⟨A, k, e, _⟩ := sch_cells hS
  injection e with e0 e
  injection e with e1 e
  injection e with e2 e
  subst e0 e1 e2
  clear e hS hz
  have X0 := Lib.hid (show LK w (.slice A S.defs.length k) (.string S.query) (.string S.mutation) _ from ⟨dbelow_new w _, heap_alloc_new w (.cells #[.slice A S.defs.length k, .string S.query, .string S.mutation] 24)⟩)
  go_enter Try.func4, Try.ntmps4
  go_wp2_with fail
  refine (L.out _ X0.out.low).mono ?_
  rintro e w1 ⟨lt, rfl, hb1⟩
  have X1 := Lib.hid (X0.out.next hb1)
  clear hb1 L X0
  obtain ⟨z0, z1, z2⟩ := three_cells X1.out.box
  cases lt with
  | false =>
    go_wp2_with fail
    refine (dawake_any w1).mono ?_
    rintro e w2 ⟨rfl, hb2⟩
    have X2 := Lib.hid (X1.out.next hb2)
    clear hb2
    go_wp2_with fail
    go_ret
    exact ⟨rfl, X2.out.low⟩
  | true =>
    by_cases hs : 2000 < t.size + n.size
    · have hs1 : decide ((2000 : Int) < (t.size : Int) + (n.size : Int)) = true := decide_eq_true (by omega)
      have hs2 : (2000 : Int) < (t.size : Int) + (n.size : Int) := by omega
      go_wp2_with fail
      refine (dawake_any w1).mono ?_
      rintro e w2 ⟨rfl, hb2⟩
      have X2 := Lib.hid (X1.out.next hb2)
      clear hb2
      go_wp2_with fail
      go_ret
      exact ⟨rfl, X2.out.low⟩
    · have hs1 : decide ((2000 : Int) < (t.size : Int) + (n.size : Int)) = false := decide_eq_false (by omega)
      have hs2 : ¬ (2000 : Int) < (t.size : Int) + (n.size : Int) := by omega
      have HT1 := Lib.hid (fun h => tname_field (l := S.defs) (t := t) h)
      have HT2 := Lib.hid (fun h => tname_none (l := S.defs) (t := t) h)
      generalize fieldD S.defs t n = x at F1 F2
      generalize fieldD S.defs t tnameB = y at F3 HT1 HT2
      generalize compD S.defs t = cp at CO HT1 HT2
      go_wp2_with fail
      refine (F1.out _ X1.out.low).mono ?_
      rintro e w2 ⟨d0, d1, d2, d3, d4, d5, rfl, hT, hb2⟩
      have X2 := Lib.hid (X1.out.next hb2)
      have T2 := Lib.hid hT
      obtain ⟨Ap, kp, Ad, kd, e, _⟩ := fld_cells hT
      simp only [List.cons.injEq, and_true] at e
      obtain ⟨rfl, rfl, rfl, rfl, rfl, rfl⟩ := e
      clear z0 z1 z2 hT hb2 X1 F1 hs hs1 hs2
      go_upto_region 4 with fail
      have X3 := Lib.hid (X2.out.next (dbelow_new w2 (.cells #[.string x.1.name, .slice Ap x.1.params.length kp, .string x.1.tn, .int .i64 x.1.tl, .int .i64 x.1.tm, .slice Ad x.1.dirs.length kd] 44)))
      have G3 := Lib.hid (heap_alloc_new w2 (.cells #[.string x.1.name, .slice Ap x.1.params.length kp, .string x.1.tn, .int .i64 x.1.tl, .int .i64 x.1.tm, .slice Ad x.1.dirs.length kd] 44))
      have T3 := Lib.hid (ts_on T2.out (dbelow_new w2 (.cells #[.string x.1.name, .slice Ap x.1.params.length kp, .string x.1.tn, .int .i64 x.1.tl, .int .i64 x.1.tm, .slice Ad x.1.dirs.length kd] 44)))
      generalize w2.alloc (.cells #[.string x.1.name, .slice Ap x.1.params.length kp, .string x.1.tn, .int .i64 x.1.tl, .int .i64 x.1.tm, .slice Ad x.1.dirs.length kd] 44) = w3 at X3 G3 T3 ⊢
      generalize w2.heap.size = g3 at G3 ⊢
      clear X2 T2
      obtain ⟨z0, z1, z2⟩ := three_cells X3.out.box
      go_wp2_with fail
      refine (F2.out _ X3.out.low).mono ?_
      rintro e w4 ⟨d0, d1, d2, d3, d4, d5, rfl, hT, hb4⟩
      have X4 := Lib.hid (X3.out.next hb4)
      have G4 := Lib.hid (block_on G3.out hb4)
      have T4 := Lib.hid (ts_on T3.out hb4)
      have U4 := Lib.hid (TS.keep (P' := fun b => b < w4.heap.size) (fun b hx => ⟨Nat.lt_of_lt_of_le hx X4.out.low.size, rfl⟩) _ _ hT)
      obtain ⟨Bp, jp, Bd, jd, e, _⟩ := fld_cells hT
      simp only [List.cons.injEq, and_true] at e
      obtain ⟨rfl, rfl, rfl, rfl, rfl, rfl⟩ := e
      clear z0 z1 z2 hT hb4 X3 G3 T3 F2
      go_upto_region 5 with fail
      have X5 := Lib.hid (X4.out.next (dbelow_new w4 (.cells #[.string x.1.name, .slice Bp x.1.params.length jp, .string x.1.tn, .int .i64 x.1.tl, .int .i64 x.1.tm, .slice Bd x.1.dirs.length jd] 44)))
      have G5 := Lib.hid (block_on G4.out (dbelow_new w4 (.cells #[.string x.1.name, .slice Bp x.1.params.length jp, .string x.1.tn, .int .i64 x.1.tl, .int .i64 x.1.tm, .slice Bd x.1.dirs.length jd] 44)))
      have H5 := Lib.hid (heap_alloc_new w4 (.cells #[.string x.1.name, .slice Bp x.1.params.length jp, .string x.1.tn, .int .i64 x.1.tl, .int .i64 x.1.tm, .slice Bd x.1.dirs.length jd] 44))
      have T5 := Lib.hid (ts_on T4.out (dbelow_new w4 (.cells #[.string x.1.name, .slice Bp x.1.params.length jp, .string x.1.tn, .int .i64 x.1.tl, .int .i64 x.1.tm, .slice Bd x.1.dirs.length jd] 44)))
      have U5 := Lib.hid (ts_on U4.out (dbelow_new w4 (.cells #[.string x.1.name, .slice Bp x.1.params.length jp, .string x.1.tn, .int .i64 x.1.tl, .int .i64 x.1.tm, .slice Bd x.1.dirs.length jd] 44)))
      generalize w4.alloc (.cells #[.string x.1.name, .slice Bp x.1.params.length jp, .string x.1.tn, .int .i64 x.1.tl, .int .i64 x.1.tm, .slice Bd x.1.dirs.length jd] 44) = w5 at X5 G5 H5 T5 U5 ⊢
      generalize w4.heap.size = g5 at H5 ⊢
      clear X4 G4 T4 U4
      obtain ⟨z0, z1, z2⟩ := three_cells X5.out.box
      go_wp2_with fail
      refine (F3.out _ X5.out.low).mono ?_
      rintro e w6 ⟨d0, d1, d2, d3, d4, d5, rfl, hT, hb6⟩
      have X6 := Lib.hid (X5.out.next hb6)
      have G6 := Lib.hid (block_on G5.out hb6)
      have H6 := Lib.hid (block_on H5.out hb6)
      have T6 := Lib.hid (ts_on T5.out hb6)
      have U6 := Lib.hid (ts_on U5.out hb6)
      obtain ⟨Cp, ip, Cd, id', e, _⟩ := fld_cells hT
      simp only [List.cons.injEq, and_true] at e
      obtain ⟨rfl, rfl, rfl, rfl, rfl, rfl⟩ := e
      clear z0 z1 z2 hT hb6 X5 G5 H5 T5 U5 F3
      have hY : (cp = true ∧ y = (⟨tnameB, [], strB, 0, 1, []⟩, true)) ∨ (cp = false ∧ y = (zeroF, false)) := by
        cases cp
        · exact .inr ⟨rfl, HT2.out rfl⟩
        · exact .inl ⟨rfl, HT1.out rfl⟩
      clear HT1 HT2
      go_upto_region 6 with fail
      have X7 := Lib.hid (X6.out.next (dbelow_new w6 (.cells #[.string y.1.name, .slice Cp y.1.params.length ip, .string y.1.tn, .int .i64 y.1.tl, .int .i64 y.1.tm, .slice Cd y.1.dirs.length id'] 44)))
      have G7 := Lib.hid (block_on G6.out (dbelow_new w6 (.cells #[.string y.1.name, .slice Cp y.1.params.length ip, .string y.1.tn, .int .i64 y.1.tl, .int .i64 y.1.tm, .slice Cd y.1.dirs.length id'] 44)))
      have H7 := Lib.hid (block_on H6.out (dbelow_new w6 (.cells #[.string y.1.name, .slice Cp y.1.params.length ip, .string y.1.tn, .int .i64 y.1.tl, .int .i64 y.1.tm, .slice Cd y.1.dirs.length id'] 44)))
      have I7 := Lib.hid (heap_alloc_new w6 (.cells #[.string y.1.name, .slice Cp y.1.params.length ip, .string y.1.tn, .int .i64 y.1.tl, .int .i64 y.1.tm, .slice Cd y.1.dirs.length id'] 44))
      have T7 := Lib.hid (ts_on T6.out (dbelow_new w6 (.cells #[.string y.1.name, .slice Cp y.1.params.length ip, .string y.1.tn, .int .i64 y.1.tl, .int .i64 y.1.tm, .slice Cd y.1.dirs.length id'] 44)))
      have U7 := Lib.hid (ts_on U6.out (dbelow_new w6 (.cells #[.string y.1.name, .slice Cp y.1.params.length ip, .string y.1.tn, .int .i64 y.1.tl, .int .i64 y.1.tm, .slice Cd y.1.dirs.length id'] 44)))
      generalize w6.alloc (.cells #[.string y.1.name, .slice Cp y.1.params.length ip, .string y.1.tn, .int .i64 y.1.tl, .int .i64 y.1.tm, .slice Cd y.1.dirs.length id'] 44) = w7 at X7 G7 H7 I7 T7 U7 ⊢
      generalize w6.heap.size = g7 at I7 ⊢
      clear X6 G6 H6 T6 U6
      have SF := Lib.hid (sfield_yes x.1.name x.1.tn x.1.tl x.1.tm x.1.params x.1.dirs Ap Bp Ad Bd kp jp kd jd w7 w7.heap.size (Nat.le_refl _) (field_pair T7.out) (field_pair U7.out))
      obtain ⟨⟨i0, i1, i2, i3, i4, i5⟩, _⟩ := six_cells I7.out
      obtain ⟨⟨p0, p1, p2, p3, p4, p5⟩, _⟩ := six_cells G7.out
      obtain ⟨⟨q0, q1, q2, q3, q4, q5⟩, _⟩ := six_cells H7.out
      obtain ⟨z0, z1, z2⟩ := three_cells X7.out.box
      have eb : (x.2 == x.2) = true := by simp
      have eS1 : strB.toList = [83, 116, 114, 105, 110, 103] := by decide +kernel
      have eS2 : (strB.toList == [83, 116, 114, 105, 110, 103]) = true := by decide +kernel
      rcases hY with ⟨rfl, rfl⟩ | ⟨rfl, rfl⟩
      · go_wp2_with fail
        refine SF.out.mono ?_
        rintro e w8 ⟨rfl, hb8⟩
        have X8 := Lib.hid (X7.out.next hb8)
        clear hb8
        obtain ⟨z0, z1, z2⟩ := three_cells X8.out.box
        go_wp2_with fail
        refine (CO.out _ X8.out.low).mono ?_
        rintro e w9 ⟨rfl, hb9⟩
        have X9 := Lib.hid (X8.out.next hb9)
        clear hb9
        go_wp2_with fail
        refine (dawake_any w9).mono ?_
        rintro e w10 ⟨rfl, hb10⟩
        have X10 := Lib.hid (X9.out.next hb10)
        clear hb10
        go_wp2_with fail
        go_ret
        exact ⟨rfl, X10.out.low⟩
      · go_wp2_with fail
        refine SF.out.mono ?_
        rintro e w8 ⟨rfl, hb8⟩
        have X8 := Lib.hid (X7.out.next hb8)
        clear hb8
        obtain ⟨z0, z1, z2⟩ := three_cells X8.out.box
        go_wp2_with fail
        refine (CO.out _ X8.out.low).mono ?_
        rintro e w9 ⟨rfl, hb9⟩
        have X9 := Lib.hid (X8.out.next hb9)
        clear hb9
        go_wp2_with fail
        refine (dawake_any w9).mono ?_
        rintro e w10 ⟨rfl, hb10⟩
        have X10 := Lib.hid (X9.out.next hb10)
        clear hb10
        go_wp2_with fail
        go_ret
        exact ⟨rfl, X10.out.low⟩
end Go.Proofs.Ytiponpcglienpaa.LDFields
