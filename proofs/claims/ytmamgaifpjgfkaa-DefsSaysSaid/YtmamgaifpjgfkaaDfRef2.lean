/- The document's own is, Object, Leaf, Composite, Entry. -/
import Derived.Test.YtmamgaifpjgfkaaDfRef1
namespace Go.Proofs.Ytmamgaifpjgfkaa
open Go.RowKit

theorem has3 (k a b c : Int) : (k == a || (k == b || k == c)) = hasI [a, b, c] k := by
  unfold hasI
  rw [Bool.eq_iff_iff]
  simp
  constructor
  · rintro (h | h | h) <;> simp [h]
  · rintro (h | h | h) <;> simp [h]
set_option maxRecDepth 100000 in
set_option maxHeartbeats 4000000 in
theorem ris_any (S : SchT) (n : ByteArray) (x y z : Int) (c0 c1 c2 : Value) (w : World) (B : Nat) (hB : B ≤ w.heap.size) (hn : n.size ≤ 9223372036854775807) (hS : TS w (fun b => b < B) (encSch S) [c0, c1, c2]) :
    Calls Try.prog 34 #[.agg #[c0, c1, c2], .string n, .int .i64 x, .int .i64 y, .int .i64 z] w fun e w' => e = .returned (.bool (isD S.defs n [x, y, z])) ∧ Below w.heap.size w w' := by
  have F := fun (wx : World) (hb : Below w.heap.size w wx) => Lib.hid (rfind_any S n c0 c1 c2 wx B (Nat.le_trans hB hb.size) hn (TS.low (hb.mono hB) hS))
  obtain ⟨A, k, e, hl, hR⟩ := sch_cells hS
  injection e with e0 e
  injection e with e1 e
  injection e with e2 e
  subst e0 e1 e2
  clear hB hS hR e hn hl
  unfold isD
  rw [← has3]
  generalize findD S.defs n = f at F ⊢
  have B0 := Lib.hid (dbelow_new w (.cells #[.slice A S.defs.length k, .string S.query, .string S.mutation] 24))
  go_enter Try.func34, Try.ntmps34
  go_wp2_with fail
  refine (F _ B0.out).out.mono ?_
  rintro e w1 ⟨d0, d1, d2, d3, d4, d5, rfl, hT, hb1⟩
  obtain ⟨Af, kf, Ax, kx, Ap, kp, Am, km, e, _⟩ := defn_cells hT
  simp only [List.cons.injEq, and_true] at e
  obtain ⟨rfl, rfl, rfl, rfl, rfl, rfl⟩ := e
  have B1 := Lib.hid (B0.out.trans (hb1.mono B0.out.size))
  clear hT hb1 F
  obtain ⟨d, ok⟩ := f
  have B2 := fun o => Lib.hid (B1.out.alloc B1.out.size o)
  cases ok with
  | false =>
    go_wp2_with fail
    go_ret
    exact ⟨rfl, (B2 _).out⟩
  | true =>
    obtain ⟨x1, h1⟩ : ∃ b, (d.kind == x) = b := ⟨_, rfl⟩
    obtain ⟨x2, h2⟩ : ∃ b, (d.kind == y) = b := ⟨_, rfl⟩
    obtain ⟨x3, h3⟩ : ∃ b, (d.kind == z) = b := ⟨_, rfl⟩
    have HE : Hid ((d.kind == x || (d.kind == y || d.kind == z)) = (x1 || (x2 || x3))) := Lib.hid (by rw [h1, h2, h3])
    cases x1 <;> cases x2 <;> cases x3
    all_goals
      go_wp2_with fail
      go_ret
      exact ⟨Blk.ret_bool (by first | rfl | (rw [HE.out]; rfl)), (B2 _).out⟩
theorem leaf_eq {l : List DefnT} {n : ByteArray} : isD l n [0, 4, 4] = leafD l n := by
  unfold leafD isD hasI
  simp
set_option maxRecDepth 100000 in
theorem rleaf_any (S : SchT) (n : ByteArray) (c0 c1 c2 : Value) (w : World) (B : Nat) (hB : B ≤ w.heap.size) (hn : n.size ≤ 9223372036854775807) (hS : TS w (fun b => b < B) (encSch S) [c0, c1, c2]) :
    Calls Try.prog 11 #[.agg #[c0, c1, c2], .string n] w fun e w' => e = .returned (.bool (leafD S.defs n)) ∧ Below w.heap.size w w' := by
  have F := fun (wx : World) (hb : Below w.heap.size w wx) => Lib.hid (ris_any S n 0 4 4 c0 c1 c2 wx B (Nat.le_trans hB hb.size) hn (TS.low (hb.mono hB) hS))
  obtain ⟨A, k, e, _⟩ := sch_cells hS
  injection e with e0 e
  injection e with e1 e
  injection e with e2 e
  subst e0 e1 e2
  clear hB e hn hS
  rw [← show isD S.defs n [0, 4, 4] = leafD S.defs n from leaf_eq]
  generalize isD S.defs n [0, 4, 4] = x at F ⊢
  have B0 := Lib.hid (dbelow_new w (.cells #[.slice A S.defs.length k, .string S.query, .string S.mutation] 24))
  go_enter Try.func11, Try.ntmps11
  go_wp2_with fail
  refine (F _ B0.out).out.mono ?_
  rintro e w1 ⟨rfl, hb1⟩
  have B1 := Lib.hid (B0.out.trans (hb1.mono B0.out.size))
  clear hb1 F
  go_wp2_with fail
  go_ret
  exact ⟨rfl, B1.out⟩
set_option maxRecDepth 100000 in
theorem rcomposite_any (S : SchT) (n : ByteArray) (c0 c1 c2 : Value) (w : World) (B : Nat) (hB : B ≤ w.heap.size) (hn : n.size ≤ 9223372036854775807) (hS : TS w (fun b => b < B) (encSch S) [c0, c1, c2]) :
    Calls Try.prog 13 #[.agg #[c0, c1, c2], .string n] w fun e w' => e = .returned (.bool (compD S.defs n)) ∧ Below w.heap.size w w' := by
  have F := fun (wx : World) (hb : Below w.heap.size w wx) => Lib.hid (ris_any S n 1 2 3 c0 c1 c2 wx B (Nat.le_trans hB hb.size) hn (TS.low (hb.mono hB) hS))
  obtain ⟨A, k, e, _⟩ := sch_cells hS
  injection e with e0 e
  injection e with e1 e
  injection e with e2 e
  subst e0 e1 e2
  clear hB e hn hS
  rw [← show isD S.defs n [1, 2, 3] = compD S.defs n from rfl]
  generalize isD S.defs n [1, 2, 3] = x at F ⊢
  have B0 := Lib.hid (dbelow_new w (.cells #[.slice A S.defs.length k, .string S.query, .string S.mutation] 24))
  go_enter Try.func13, Try.ntmps13
  go_wp2_with fail
  refine (F _ B0.out).out.mono ?_
  rintro e w1 ⟨rfl, hb1⟩
  have B1 := Lib.hid (B0.out.trans (hb1.mono B0.out.size))
  clear hb1 F
  go_wp2_with fail
  go_ret
  exact ⟨rfl, B1.out⟩
set_option maxRecDepth 100000 in
theorem rentry_any (S : SchT) (n : ByteArray) (c0 c1 c2 : Value) (w : World) (B : Nat) (hB : B ≤ w.heap.size) (hn : n.size ≤ 9223372036854775807) (hS : TS w (fun b => b < B) (encSch S) [c0, c1, c2]) :
    Calls Try.prog 15 #[.agg #[c0, c1, c2], .string n] w fun e w' => e = .returned (.bool (entryD S.defs n)) ∧ Below w.heap.size w w' := by
  have F := fun (wx : World) (hb : Below w.heap.size w wx) => Lib.hid (ris_any S n 0 4 5 c0 c1 c2 wx B (Nat.le_trans hB hb.size) hn (TS.low (hb.mono hB) hS))
  obtain ⟨A, k, e, _⟩ := sch_cells hS
  injection e with e0 e
  injection e with e1 e
  injection e with e2 e
  subst e0 e1 e2
  clear hB e hn hS
  rw [← show isD S.defs n [0, 4, 5] = entryD S.defs n from rfl]
  generalize isD S.defs n [0, 4, 5] = x at F ⊢
  have B0 := Lib.hid (dbelow_new w (.cells #[.slice A S.defs.length k, .string S.query, .string S.mutation] 24))
  go_enter Try.func15, Try.ntmps15
  go_wp2_with fail
  refine (F _ B0.out).out.mono ?_
  rintro e w1 ⟨rfl, hb1⟩
  have B1 := Lib.hid (B0.out.trans (hb1.mono B0.out.size))
  clear hb1 F
  go_wp2_with fail
  go_ret
  exact ⟨rfl, B1.out⟩
theorem obj_eq {S : SchT} {n : ByteArray} : isD S.defs n [1, 1, 1] = objB S n := by
  unfold objB isD hasI
  simp
set_option maxRecDepth 100000 in
theorem robject_any (S : SchT) (n : ByteArray) (c0 c1 c2 : Value) (w : World) (B : Nat) (hB : B ≤ w.heap.size) (hn : n.size ≤ 9223372036854775807) (hS : TS w (fun b => b < B) (encSch S) [c0, c1, c2]) :
    Calls Try.prog 40 #[.agg #[c0, c1, c2], .string n] w fun e w' => e = .returned (.bool (objB S n)) ∧ Below w.heap.size w w' := by
  have F := fun (wx : World) (hb : Below w.heap.size w wx) => Lib.hid (ris_any S n 1 1 1 c0 c1 c2 wx B (Nat.le_trans hB hb.size) hn (TS.low (hb.mono hB) hS))
  obtain ⟨A, k, e, _⟩ := sch_cells hS
  injection e with e0 e
  injection e with e1 e
  injection e with e2 e
  subst e0 e1 e2
  clear hB e hn hS
  rw [← show isD S.defs n [1, 1, 1] = objB S n from obj_eq]
  generalize isD S.defs n [1, 1, 1] = x at F ⊢
  have B0 := Lib.hid (dbelow_new w (.cells #[.slice A S.defs.length k, .string S.query, .string S.mutation] 24))
  go_enter Try.func40, Try.ntmps40
  go_wp2_with fail
  refine (F _ B0.out).out.mono ?_
  rintro e w1 ⟨rfl, hb1⟩
  have B1 := Lib.hid (B0.out.trans (hb1.mono B0.out.size))
  clear hb1 F
  go_wp2_with fail
  go_ret
  exact ⟨rfl, B1.out⟩
end Go.Proofs.Ytmamgaifpjgfkaa
