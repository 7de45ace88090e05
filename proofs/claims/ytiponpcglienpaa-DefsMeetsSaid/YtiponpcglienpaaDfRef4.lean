/- The document's own Meets. -/
import Derived.Test.YtiponpcglienpaaDfRef3
import Derived.Test.YtiponpcglienpaaLawDPoss
namespace Go.Proofs.Ytiponpcglienpaa
open Go.RowKit LDKinds

set_option maxRecDepth 100000 in
set_option maxHeartbeats 8000000 in
theorem rmeets_any (S : SchT) (a b : ByteArray) (c0 c1 c2 : Value) (w : World) (B : Nat) (hB : B ≤ w.heap.size) (ha : a.size ≤ 9223372036854775807) (hb : b.size ≤ 9223372036854775807) (hz : SlimS S) (hS : TS w (fun b => b < B) (encSch S) [c0, c1, c2]) :
    Calls Try.prog 29 #[.agg #[c0, c1, c2], .string a, .string b] w fun e w' => e = .returned (.bool (meetsB S a b)) ∧ Below w.heap.size w w' := by
  have PP := Lib.hid (fun (m : ByteArray) (hm : m.size ≤ 9223372036854775807) (wx : World) (h : Below w.heap.size w wx) => rposs_any S m c0 c1 c2 wx B (Nat.le_trans hB h.size) hm hz (TS.low (h.mono hB) hS))
  have hl1 := poss_len S b hz
  have hl2 := poss_len S a hz
  obtain ⟨A, k, e, _⟩ := sch_cells hS
  injection e with e0 e
  injection e with e1 e
  injection e with e2 e
  subst e0 e1 e2
  clear hB e hS hz
  unfold meetsB
  have B0 := Lib.hid (dbelow_new w (.cells #[.slice A S.defs.length k, .string S.query, .string S.mutation] 24))
  have X0 := Lib.hid (heap_alloc_new w (.cells #[.slice A S.defs.length k, .string S.query, .string S.mutation] 24))
  go_enter Try.func29, Try.ntmps29
  go_upto_region 1 with fail
  generalize w.alloc (.cells #[.slice A S.defs.length k, .string S.query, .string S.mutation] 24) = w1 at B0 X0 ⊢
  obtain ⟨z0, z1, z2⟩ := three_cells X0.out
  have hE : QS w1 w.heap.size (.slice A S.defs.length k) (.string S.query) (.string S.mutation) w1 := ⟨z0, z1, z2, Below.refl _ _⟩
  have HL := Lib.hid (Array.getElem?_eq_some_iff.1 X0.out).1
  have HA := Lib.hid ha
  have HBB := Lib.hid hb
  clear ha hb
  go_region_held3 (fun w' => w'.cell? ⟨w.heap.size, 0, none⟩ = some (.slice A S.defs.length k) ∧ w'.cell? ⟨w.heap.size, 1, none⟩ = some (.string S.query) ∧ w'.cell? ⟨w.heap.size, 2, none⟩ = some (.string S.mutation) ∧ QS w1 w.heap.size (.slice A S.defs.length k) (.string S.query) (.string S.mutation) w')
    (first
      | exact QS.written (hE.next HL.out (Below.drew (Below.refl _ _)))
      | exact QS.written ((hE.next HL.out (Below.drew (Below.refl _ _))).next HL.out (by assumption))
      | exact QS.written (hE.next HL.out (by assumption))
      | exact QS.written (QS.next (QS.last (by assumption)) HL.out (by assumption))
      | go_keep)
    ((first
      | (go_at_call 23; refine (PP.out _ (by first | exact HA.out | exact HBB.out) _ (by first | exact B0.out.trans (Below.mono (Below.drew (Below.refl _ _)) B0.out.size) | exact B0.out.trans ((QS.held (by assumption)).mono B0.out.size))).mono ?_; rintro e w' ⟨Aq, kq, rfl, hsq, hb⟩)))
  all_goals
    rename_i wA A1 k1 hs1 hb1 hH
    have HK := Lib.hid (QS.held hH)
    have B2 := Lib.hid (B0.out.trans (HK.out.mono B0.out.size))
    have S1 := Lib.hid (hs1.on hb)
    have S2 := Lib.hid hsq
    clear hs1 hb1 hH hb hsq HK z0 z1 z2 hE HL X0 B0 PP
    generalize hxe : possL S a = xs at S1 hl2 ⊢
    generalize hye : possL S b = ys at S2 hl1 ⊢
    have HXE := Lib.hid hxe
    have HYE := Lib.hid hye
    clear hxe hye
    generalize w' = w2 at B2 S1 S2 ⊢
    go_wp2_with fail
    go_loopg [9] xs.length (fun g i wx => ∃ q : Nat, q + g = xs.length ∧ i = .int .i64 q ∧ Below w2.heap.size w2 wx ∧ Aside (anyN (xs.take q) ys = false))
    case atStart => exact ⟨0, by omega, rfl, Below.refl _ _, Blk.Aside.intro (by rw [List.take_zero]; rfl)⟩
    case round =>
      obtain ⟨q, hq, rfl, hb, HX⟩ := hrel
      have HBW := Lib.hid hb
      clear hb
      cases gk with
      | zero =>
        obtain rfl : q = xs.length := by omega
        have hE : Hid (anyN xs ys = false) := Lib.hid (by have := HX.out; rwa [List.take_length] at this)
        clear HX
        go_wp2_with fail
        go_ret
        exact ⟨Blk.ret_bool (by rw [HXE.out, HYE.out]; exact hE.out.symm), B2.out.trans (HBW.out.mono B2.out.size)⟩
      | succ g =>
        have hqn : q < xs.length := by omega
        have hqn' : (q : Int) < (xs.length : Int) := by omega
        obtain ⟨x, hx⟩ : ∃ x, xs[q]? = some x := ⟨_, List.getElem?_eq_getElem hqn⟩
        obtain ⟨b1, o1, rfl, hlt1, cx⟩ := S1.out.2 q x hx
        have cx := (HBW.out.cell (p := ⟨b1, o1 + q, none⟩) hlt1).trans cx
        have HXX := Lib.hid hx
        have HS := Lib.hid (rhas_any Aq ys.length kq ys x wr hl1 (S2.out.on HBW.out))
        clear hx
        cases e : hasN ys x with
        | true =>
          rw [e] at HS
          have hT : Hid (anyN xs ys = true) := Lib.hid (any_mem HXX.out e)
          clear HX e
          go_wp2_with fail
          refine HS.out.mono ?_
          rintro e w3 ⟨rfl, hb3⟩
          have B3 := Lib.hid (B2.out.trans ((HBW.out.trans (hb3.mono HBW.out.size)).mono B2.out.size))
          clear hb3 cx
          go_wp2_with fail
          go_ret
          exact ⟨Blk.ret_bool (by rw [HXE.out, HYE.out]; exact hT.out.symm), B3.out⟩
        | false =>
          rw [e] at HS
          have hT := Lib.hid (any_take HX.out HXX.out e)
          clear HX e
          go_wp2_with fail
          refine HS.out.mono ?_
          rintro e w3 ⟨rfl, hb3⟩
          have B3 := Lib.hid (HBW.out.trans (hb3.mono HBW.out.size))
          clear hb3 cx
          go_wp2_with fail
          go_roundg g
          case measure => omega
          case rel => exact ⟨q + 1, by omega, by go_num, B3.out, Blk.Aside.intro hT.out⟩
end Go.Proofs.Ytiponpcglienpaa
