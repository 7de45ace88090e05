/- defs.Sub. -/
import Derived.Test.YtiponpcglienpaaDfNarrow
import Derived.Test.YtiponpcglienpaaDfWSub
import Derived.Test.YtiponpcglienpaaDfAwake
namespace Go.Proofs.Ytiponpcglienpaa
open Go.RowKit

/-- Four new blocks, while calls go on. -/
structure SK (w : World) (o1 o2 o3 o4 : Obj) (W : World) : Prop where
  low : Below w.heap.size w W
  b0 : W.heap[w.heap.size]? = some o1
  b1 : W.heap[w.heap.size + 1]? = some o2
  b2 : W.heap[w.heap.size + 1 + 1]? = some o3
  b3 : W.heap[w.heap.size + 1 + 1 + 1]? = some o4
theorem SK.start (w : World) (o1 o2 o3 o4 : Obj) : SK w o1 o2 o3 o4 ((((w.alloc o1).alloc o2).alloc o3).alloc o4) :=
  ⟨four_below w o1 o2 o3 o4, (four_new w o1 o2 o3 o4).1, (four_new w o1 o2 o3 o4).2.1, (four_new w o1 o2 o3 o4).2.2.1, (four_new w o1 o2 o3 o4).2.2.2⟩
theorem heap_on {W W' : World} {g : Nat} {o : Obj} (h : W.heap[g]? = some o) (hb : Below W.heap.size W W') : W'.heap[g]? = some o := (hb.block _ (Array.getElem?_eq_some_iff.1 h).1).trans h
theorem SK.next {w W W' : World} {o1 o2 o3 o4 : Obj} (h : SK w o1 o2 o3 o4 W) (hb : Below W.heap.size W W') : SK w o1 o2 o3 o4 W' :=
  ⟨h.low.trans (hb.mono h.low.size), heap_on h.b0 hb, heap_on h.b1 hb, heap_on h.b2 hb, heap_on h.b3 hb⟩
/-- What Sub answers. -/
def dsubB (S : SchT) (na : ByteArray) (la ma : Int) (nb : ByteArray) (lb mb : Int) : Bool :=
  rightT na.data.toList la ma && (subB nb la ma nb lb mb && narB S na nb)
set_option maxRecDepth 100000 in
set_option maxHeartbeats 8000000 in
theorem dsub_any (S : SchT) (na : ByteArray) (la ma : Int) (nb : ByteArray) (lb mb : Int) (c0 c1 c2 : Value) (w : World) (B : Nat) (hB : B ≤ w.heap.size) (ha : na.size ≤ 9000) (hb : nb.size ≤ 9000) (hz : SlimS S) (hS : TS w (fun b => b < B) (encSch S) [c0, c1, c2]) :
    Calls Try.prog 30 #[.agg #[c0, c1, c2], .agg #[.string na, .int .i64 la, .int .i64 ma], .agg #[.string nb, .int .i64 lb, .int .i64 mb]] w fun e w' => e = .returned (.bool (dsubB S na la ma nb lb mb)) ∧ Below w.heap.size w w' := by
  have N1 := Lib.hid (fun (wx : World) (h : Below w.heap.size w wx) => narrower_any S na nb c0 c1 c2 wx B (Nat.le_trans hB h.size) (by omega) (by omega) hz (TS.low (h.mono hB) hS))
  have R1 := Lib.hid (fun wx => wright_any na la ma wx ha)
  have S1 := Lib.hid (fun wx => wsub_any nb la ma nb lb mb wx hb hb)
  obtain ⟨A, k, e, _⟩ := sch_cells hS
  injection e with e0 e
  injection e with e1 e
  injection e with e2 e
  subst e0 e1 e2
  clear hB e ha hb hS hz
  have HQ : Hid (dsubB S na la ma nb lb mb = (rightT na.data.toList la ma && (subB nb la ma nb lb mb && narB S na nb))) := Lib.hid rfl
  generalize dsubB S na la ma nb lb mb = Q at HQ ⊢
  generalize rightT na.data.toList la ma = x1 at R1 HQ
  generalize subB nb la ma nb lb mb = x2 at S1 HQ
  generalize narB S na nb = x3 at N1 HQ
  have X0 := Lib.hid (SK.start w (.cells #[.slice A S.defs.length k, .string S.query, .string S.mutation] 24) (.cells #[.string na, .int .i64 la, .int .i64 ma] 41) (.cells #[.string nb, .int .i64 lb, .int .i64 mb] 41) (.cells #[.string nb, .int .i64 la, .int .i64 ma] 41))
  go_enter Try.func30, Try.ntmps30
  go_wp2_with fail
  refine (R1.out _).mono ?_
  rintro e w1 ⟨rfl, hb1⟩
  have X1 := Lib.hid (X0.out.next hb1)
  clear hb1 R1 X0
  obtain ⟨a0, a1, a2⟩ := three_cells X1.out.b1
  obtain ⟨f0, f1, f2⟩ := three_cells X1.out.b2
  obtain ⟨g0, g1, g2⟩ := three_cells X1.out.b3
  cases x1 with
  | false =>
    go_wp2_with fail
    go_ret
    exact ⟨Blk.ret_bool HQ.out.symm, X1.out.low⟩
  | true =>
    go_wp2_with fail
    refine (S1.out _).mono ?_
    rintro e w2 ⟨rfl, hb2⟩
    have X2 := Lib.hid (X1.out.next hb2)
    clear hb2 S1 X1 a0 a1 a2 f0 f1 f2 g0 g1 g2
    obtain ⟨z0, z1, z2⟩ := three_cells X2.out.b0
    obtain ⟨a0, a1, a2⟩ := three_cells X2.out.b1
    obtain ⟨f0, f1, f2⟩ := three_cells X2.out.b2
    cases x2 with
    | false =>
      go_wp2_with fail
      go_ret
      exact ⟨Blk.ret_bool HQ.out.symm, X2.out.low⟩
    | true =>
      go_wp2_with fail
      refine (N1.out _ X2.out.low).mono ?_
      rintro e w3 ⟨rfl, hb3⟩
      have X3 := Lib.hid (X2.out.next hb3)
      clear hb3 N1 X2 a0 a1 a2 f0 f1 f2 z0 z1 z2
      go_wp2_with fail
      go_ret
      exact ⟨Blk.ret_bool HQ.out.symm, X3.out.low⟩
end Go.Proofs.Ytiponpcglienpaa
