/- The walk of the law DefsMeets. -/
import Derived.Test.YtiponpcglienpaaDfRef4
namespace Go.Proofs.Ytiponpcglienpaa.LDMeets
open Go.RowKit LDKinds

theorem any_comm (xs ys : List ByteArray) : anyN xs ys = anyN ys xs := by
  have h : ∀ xs ys : List ByteArray, anyN xs ys = true → anyN ys xs = true := fun xs ys h => by
    unfold anyN at h ⊢
    rw [List.any_eq_true] at h ⊢
    obtain ⟨x, h1, h2⟩ := h
    exact ⟨x, hasN_iff.1 h2, hasN_iff.2 h1⟩
  rw [Bool.eq_iff_iff]
  exact ⟨h _ _, h _ _⟩
theorem any_self (xs : List ByteArray) : anyN xs xs = decide ((0 : Int) < (xs.length : Int)) := by
  cases xs with
  | nil => rfl
  | cons a t =>
    rw [show decide ((0 : Int) < ((a :: t).length : Int)) = true from decide_eq_true (by simp)]
    unfold anyN
    rw [List.any_eq_true]
    exact ⟨a, List.mem_cons_self .., hasN_iff.2 (List.mem_cons_self ..)⟩
set_option maxRecDepth 100000 in
set_option maxHeartbeats 8000000 in
theorem walk (w : World) (S : SchT) (c0 c1 c2 : Value) (hS : TS w (fun b => b < w.heap.size) (encSch S) [c0, c1, c2]) (hz : SlimS S) (a : ByteArray) (ha : a.size ≤ 140737488355328) (b : ByteArray) (hb : b.size ≤ 140737488355328) :
    Calls Try.prog 5 #[.agg #[c0, c1, c2], .string a, .string b] w fun e w' => e = .returned (.bool true) ∧ Below w.heap.size w w' := by
  have L := Lib.hid (fun (wx : World) (h : Below w.heap.size w wx) => light_any S c0 c1 c2 wx w.heap.size h.size (TS.low h hS))
  have MM := Lib.hid (fun (x y : ByteArray) (hx : x.size ≤ 9223372036854775807) (hy : y.size ≤ 9223372036854775807) (wx : World) (h : Below w.heap.size w wx) => meets_any S x y c0 c1 c2 wx w.heap.size h.size hx hy hz (TS.low h hS))
  have RM := Lib.hid (fun (wx : World) (h : Below w.heap.size w wx) => rmeets_any S a b c0 c1 c2 wx w.heap.size h.size (by omega) (by omega) hz (TS.low h hS))
  have PP := Lib.hid (fun (wx : World) (h : Below w.heap.size w wx) => poss_any S a c0 c1 c2 wx w.heap.size h.size (by omega) hz (TS.low h hS))
  obtain ⟨A, k, e, _⟩ := sch_cells hS
  injection e with e0 e
  injection e with e1 e
  injection e with e2 e
  subst e0 e1 e2
  clear e hS hz
  have B0 := Lib.hid (dbelow_new w (.cells #[.slice A S.defs.length k, .string S.query, .string S.mutation] 24))
  have X0 := Lib.hid (heap_alloc_new w (.cells #[.slice A S.defs.length k, .string S.query, .string S.mutation] 24))
  have HA : Hid (a.size ≤ 9223372036854775807) := Lib.hid (by omega)
  have HB : Hid (b.size ≤ 9223372036854775807) := Lib.hid (by omega)
  have M1 := Lib.hid (fun wx h => MM.out a b HA.out HB.out wx h)
  have M2 := Lib.hid (fun wx h => MM.out b a HB.out HA.out wx h)
  have M3 := Lib.hid (fun wx h => MM.out a a HA.out HA.out wx h)
  have hm2 : meetsB S b a = meetsB S a b := any_comm _ _
  have hm3 : meetsB S a a = decide ((0 : Int) < ((possL S a).length : Int)) := any_self _
  rw [hm2] at M2
  rw [hm3] at M3
  generalize meetsB S a b = mb at M1 M2 RM
  generalize possL S a = ps at M3 PP
  clear hm2 hm3 MM
  go_enter Try.func5, Try.ntmps5
  go_wp2_with fail
  refine (L.out _ B0.out).mono ?_
  rintro e w1 ⟨lt, rfl, hb1⟩
  have B1 := Lib.hid (B0.out.trans (hb1.mono B0.out.size))
  have X1 := Lib.hid ((hb1.block w.heap.size (by simp)).trans X0.out)
  clear hb1 L X0
  obtain ⟨z0, z1, z2⟩ := three_cells X1.out
  cases lt with
  | false =>
    go_wp2_with fail
    refine (dawake_any w1).mono ?_
    rintro e w2 ⟨rfl, hb2⟩
    have B2 := Lib.hid (B1.out.trans (hb2.mono B1.out.size))
    clear hb2
    go_wp2_with fail
    go_ret
    exact ⟨rfl, B2.out⟩
  | true =>
    by_cases hs : 2000 < a.size + b.size
    · have hs1 : decide ((2000 : Int) < (a.size : Int) + (b.size : Int)) = true := decide_eq_true (by omega)
      have hs2 : (2000 : Int) < (a.size : Int) + (b.size : Int) := by omega
      go_wp2_with fail
      refine (dawake_any w1).mono ?_
      rintro e w2 ⟨rfl, hb2⟩
      have B2 := Lib.hid (B1.out.trans (hb2.mono B1.out.size))
      clear hb2
      go_wp2_with fail
      go_ret
      exact ⟨rfl, B2.out⟩
    · have hs1 : decide ((2000 : Int) < (a.size : Int) + (b.size : Int)) = false := decide_eq_false (by omega)
      have hs2 : ¬ (2000 : Int) < (a.size : Int) + (b.size : Int) := by omega
      go_wp2_with fail
      refine (M1.out _ B1.out).mono ?_
      rintro e w2 ⟨rfl, hb2⟩
      have B2 := Lib.hid (B1.out.trans (hb2.mono B1.out.size))
      have X2 := Lib.hid ((hb2.block w.heap.size (Array.getElem?_eq_some_iff.1 X1.out).1).trans X1.out)
      clear z0 z1 z2 hb2 X1 M1 hs hs1 hs2
      obtain ⟨z0, z1, z2⟩ := three_cells X2.out
      have hE : QS w2 w.heap.size (.slice A S.defs.length k) (.string S.query) (.string S.mutation) w2 := ⟨z0, z1, z2, Below.refl _ _⟩
      have HL := Lib.hid (Array.getElem?_eq_some_iff.1 X2.out).1
      have eb : (mb == mb) = true := by simp
      have eq' : (decide ((0 : Int) < (ps.length : Int)) == decide ((0 : Int) < (ps.length : Int))) = true := by simp
      go_wp2_with fail
      go_region_held3 (fun w' => w'.cell? ⟨w.heap.size, 0, none⟩ = some (.slice A S.defs.length k) ∧ w'.cell? ⟨w.heap.size, 1, none⟩ = some (.string S.query) ∧ w'.cell? ⟨w.heap.size, 2, none⟩ = some (.string S.mutation) ∧ QS w2 w.heap.size (.slice A S.defs.length k) (.string S.query) (.string S.mutation) w')
        (first
          | exact QS.written (hE.next HL.out (Below.drew (Below.refl _ _)))
          | exact QS.written ((hE.next HL.out (Below.drew (Below.refl _ _))).next HL.out (by assumption))
          | exact QS.written (hE.next HL.out (by assumption))
          | exact QS.written (QS.next (QS.last (by assumption)) HL.out (by assumption))
          | go_keep)
        ((first
          | (go_at_call 29; refine (RM.out _ (by first | exact B2.out.trans (Below.mono (Below.drew (Below.refl _ _)) B2.out.size) | exact B2.out.trans ((QS.held (by assumption)).mono B2.out.size))).mono ?_; rintro e w' ⟨rfl, hb⟩)
          | (go_at_call 22; refine (PP.out _ (by first | exact B2.out.trans (Below.mono (Below.drew (Below.refl _ _)) B2.out.size) | exact B2.out.trans ((QS.held (by assumption)).mono B2.out.size))).mono ?_; rintro e w' ⟨Aq, kq, rfl, _, hb⟩)
          | (go_at_call 10; refine (dawake_any _).mono ?_; rintro e w' ⟨rfl, hb⟩)
          | (go_at_call 28; first
              | ((with_reducible refine (M2.out _ (by first | exact B2.out.trans (Below.mono (Below.drew (Below.refl _ _)) B2.out.size) | exact B2.out.trans ((QS.held (by assumption)).mono B2.out.size))).mono ?_); rintro e w' ⟨rfl, hb⟩)
              | ((with_reducible refine (M3.out _ (by first | exact B2.out.trans (Below.mono (Below.drew (Below.refl _ _)) B2.out.size) | exact B2.out.trans ((QS.held (by assumption)).mono B2.out.size))).mono ?_); rintro e w' ⟨rfl, hb⟩))))
      all_goals
        have HK := Lib.hid (QS.held (by assumption))
        have B3 := Lib.hid (B2.out.trans (HK.out.mono B2.out.size))
        clear hE z0 z1 z2 HK
        go_wp2_with fail
        go_ret
        exact ⟨rfl, B3.out⟩
end Go.Proofs.Ytiponpcglienpaa.LDMeets
