/- defs.narrower. -/
import Derived.Test.YtiponpcglienpaaDfRef3
import Derived.Test.YtiponpcglienpaaDfMeet
namespace Go.Proofs.Ytiponpcglienpaa
open Go.RowKit

/-- What narrower answers. -/
def narB (S : SchT) (a b : ByteArray) : Bool :=
  a.toList == b.toList || (if isD S.defs a [1] = true then hasN (possL S b) a else (isD S.defs a [2] && (isD S.defs b [2] && hasN (findD S.defs a).1.faces b)))
set_option maxRecDepth 100000 in
set_option maxHeartbeats 8000000 in
theorem narrower_any (S : SchT) (a b : ByteArray) (c0 c1 c2 : Value) (w : World) (B : Nat) (hB : B ≤ w.heap.size) (ha : a.size ≤ 9223372036854775807) (hb : b.size ≤ 9223372036854775807) (hz : SlimS S) (hS : TS w (fun b => b < B) (encSch S) [c0, c1, c2]) :
    Calls Try.prog 55 #[.agg #[c0, c1, c2], .string a, .string b] w fun e w' => e = .returned (.bool (narB S a b)) ∧ Below w.heap.size w w' := by
  have IS := fun (n : ByteArray) (hn : n.size ≤ 9223372036854775807) (k : Int) (t : TypeId) (g : Nat) (wx : World) (hg : wx.heap.size = g) (hb : Below w.heap.size w wx) =>
    is_any S n [k] (some ⟨g, 0, none⟩) 1 1 c0 c1 c2 (wx.alloc (.cells #[.int .i64 k] t)) B (Nat.le_trans hB (Nat.le_trans hb.size (by simp))) hn (by decide) rfl (by subst hg; exact ints_new wx (by simp) rfl) (TS.low ((hb.alloc hb.size _).mono hB) hS)
  have I1 := Lib.hid (IS a ha 1)
  have I2 := Lib.hid (IS a ha 2)
  have I3 := Lib.hid (IS b hb 2)
  have P1 := Lib.hid (fun (wx : World) (h : Below w.heap.size w wx) => poss_any S b c0 c1 c2 wx B (Nat.le_trans hB h.size) hb hz (TS.low (h.mono hB) hS))
  have F := Lib.hid (fun (wx : World) (h : Below w.heap.size w wx) => find_any S a c0 c1 c2 wx B (Nat.le_trans hB h.size) ha (TS.low (h.mono hB) hS))
  have hl1 := poss_len S b hz
  have HB := Lib.hid hB
  obtain ⟨A, k, e, _⟩ := sch_cells hS
  injection e with e0 e
  injection e with e1 e
  injection e with e2 e
  subst e0 e1 e2
  clear hB e ha hb hS hz IS
  have X0 := Lib.hid (show BX w (.slice A S.defs.length k) (.string S.query) (.string S.mutation) _ from ⟨dbelow_new w _, heap_alloc_new w (.cells #[.slice A S.defs.length k, .string S.query, .string S.mutation] 24)⟩)
  have HQ : Hid (narB S a b = (a.toList == b.toList || (if isD S.defs a [1] = true then hasN (possL S b) a else (isD S.defs a [2] && (isD S.defs b [2] && hasN (findD S.defs a).1.faces b))))) := Lib.hid rfl
  generalize narB S a b = Q at HQ ⊢
  generalize isD S.defs a [1] = x1 at I1 HQ
  generalize isD S.defs a [2] = x2 at I2 HQ
  generalize isD S.defs b [2] = x3 at I3 HQ
  generalize possL S b = ys at P1 HQ hl1
  generalize findD S.defs a = d at F HQ
  cases e1 : (a.toList == b.toList) with
  | true =>
    have hQ : Q = true := HQ.out.trans (by rw [e1]; rfl)
    subst hQ
    go_enter Try.func55, Try.ntmps55
    go_wp2_with fail
    go_ret
    exact ⟨rfl, X0.out.1⟩
  | false =>
    have HQ : Hid (Q = if x1 = true then hasN ys a else (x2 && (x3 && hasN d.1.faces b))) := Lib.hid (HQ.out.trans (by rw [e1]; rfl))
    go_enter Try.func55, Try.ntmps55
    go_wp2_with fail
    refine (I1.out _ _ _ (by simp) X0.out.1).mono ?_
    rintro e w1 ⟨rfl, hb1⟩
    have X1 := Lib.hid ((X0.out.next (dbelow_new _ _)).next hb1)
    clear hb1 I1 e1 X0
    obtain ⟨z0, z1, z2⟩ := three_cells X1.out.2
    cases x1 with
    | true =>
      go_wp2_with fail
      refine (P1.out _ X1.out.1).mono ?_
      rintro e w2 ⟨A2, k2, rfl, hs2, hb2⟩
      have X2 := Lib.hid (X1.out.next hb2)
      clear hb2 P1 X1 z0 z1 z2
      go_wp2_with fail
      refine (contains_s A2 ys.length k2 ys a w2 hl1 hs2).mono ?_
      rintro e w3 ⟨rfl, hb3⟩
      have X3 := Lib.hid (X2.out.next hb3)
      clear hb3 X2
      go_wp2_with fail
      go_ret
      exact ⟨Blk.ret_bool HQ.out.symm, X3.out.1⟩
    | false =>
      go_wp2_with fail
      refine (I2.out _ _ _ rfl X1.out.1).mono ?_
      rintro e w2 ⟨rfl, hb2⟩
      have X2 := Lib.hid ((X1.out.next (dbelow_new _ _)).next hb2)
      clear hb2 I2 X1 z0 z1 z2
      obtain ⟨z0, z1, z2⟩ := three_cells X2.out.2
      cases x2 with
      | false =>
        go_wp2_with fail
        go_ret
        exact ⟨Blk.ret_bool HQ.out.symm, X2.out.1⟩
      | true =>
        go_wp2_with fail
        refine (I3.out _ _ _ rfl X2.out.1).mono ?_
        rintro e w3 ⟨rfl, hb3⟩
        have X3 := Lib.hid ((X2.out.next (dbelow_new _ _)).next hb3)
        clear hb3 I3 X2 z0 z1 z2
        obtain ⟨z0, z1, z2⟩ := three_cells X3.out.2
        cases x3 with
        | false =>
          go_wp2_with fail
          go_ret
          exact ⟨Blk.ret_bool HQ.out.symm, X3.out.1⟩
        | true =>
          go_wp2_with fail
          refine (F.out _ X3.out.1).mono ?_
          rintro e w4 ⟨d0, d1, d2, d3, d4, d5, rfl, hT, hb4⟩
          obtain ⟨Af, kf, Ax, kx, Ap, kp, Am, km, e, _, ⟨hlf, hrf⟩, _⟩ := defn_cells hT
          simp only [List.cons.injEq, and_true] at e
          obtain ⟨rfl, rfl, rfl, rfl, rfl, rfl⟩ := e
          have X4 := Lib.hid (X3.out.next hb4)
          have S4 := Lib.hid (fun o => (str_row (RowT.below ((dbelow_new w4 o).mono (Nat.le_trans HB.out X4.out.1.size)) hrf)).more (Nat.le_trans HB.out (Nat.le_trans X4.out.1.size (dbelow_new w4 o).size)))
          clear hb4 F X3 z0 z1 z2 hT hrf
          go_wp2_with fail
          refine (contains_s Af d.1.faces.length kf d.1.faces b _ hlf (S4.out _)).mono ?_
          rintro e w5 ⟨rfl, hb5⟩
          have X5 := Lib.hid ((X4.out.next (dbelow_new _ _)).next hb5)
          clear hb5 X4
          go_wp2_with fail
          go_ret
          exact ⟨Blk.ret_bool HQ.out.symm, X5.out.1⟩
end Go.Proofs.Ytiponpcglienpaa
