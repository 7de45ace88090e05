/- A type that comes in, opened; its name within the reach. -/
import Derived.Test.YtiponpcglienpaaDfOpen
namespace Go.Proofs.Ytiponpcglienpaa
open Go.ChangeShapes Go.WideShapes Go.ChangeAt Go.RowKit

set_option maxRecDepth 100000 in
theorem open_typ {H : Type} {enc : TypeId × Value → H} {W : World} {base : Nat} {v : Value} {d : DataW H} {ps : List MemPlace} (hval : Value.okWide Try.prog W .any base 41 v) (hd : DataW.Trod enc Try.prog W 0 (fun _ => true) true 41 v d ps) (hz : ∀ m ∈ d.weights Try.prog 41, m ≤ reachBytes) :
    ∃ (n : ByteArray) (l m : Int), v = .agg #[.string n, .int .i64 l, .int .i64 m] ∧ n.size ≤ 140737488355328 := by
  obtain ⟨cs, rfl, hsz⟩ := okWide_struct Try.underlying41 hval
  obtain ⟨fuel, hf0⟩ := hd
  obtain ⟨L⟩ := cs
  rw [ocTy] at hsz
  match L, hsz with
  | [c0, c1, c2], _ =>
    obtain ⟨xs, n, rfl, hx, hl, hxl, hf⟩ := DataW.trod_struct Try.underlying41 hf0
    have f0 : DataW.trod enc Try.prog W 0 (fun _ => true) true n 9 [c0] = xs[0]? := by have h' : DataW.trod enc Try.prog W 0 (fun _ => true) true n 9 (([c0, c1, c2].drop 0).take (Try.prog.cellsOf 9)) = xs[0]? := hf 0 _ rfl; rw [ocStr] at h'; exact h'
    have f1 : DataW.trod enc Try.prog W 0 (fun _ => true) true n 3 [c1] = xs[1]? := by have h' : DataW.trod enc Try.prog W 0 (fun _ => true) true n 3 (([c0, c1, c2].drop 1).take (Try.prog.cellsOf 3)) = xs[1]? := hf 1 _ rfl; rw [ocInt] at h'; exact h'
    have f2 : DataW.trod enc Try.prog W 0 (fun _ => true) true n 3 [c2] = xs[2]? := by have h' : DataW.trod enc Try.prog W 0 (fun _ => true) true n 3 (([c0, c1, c2].drop 2).take (Try.prog.cellsOf 3)) = xs[2]? := hf 2 _ rfl; rw [ocInt] at h'; exact h'
    match xs, hxl with
    | [y0, y1, y2], _ =>
      obtain ⟨t, e0, hy, ht⟩ := DataW.trod_string Try.underlying9 (f0.trans rfl)
      obtain ⟨l, e1, _, _⟩ := DataW.trod_int Try.underlying3 (f1.trans rfl)
      obtain ⟨m, e2, _, _⟩ := DataW.trod_int Try.underlying3 (f2.trans rfl)
      simp only [List.cons.injEq, and_true] at e0 e1 e2
      subst e0 e1 e2
      refine ⟨t, l, m, rfl, ?_⟩
      obtain rfl := (Prod.mk.inj hx).1
      subst hy
      simp only [List.map_cons, List.map_nil, DataW.weights, Try.underlying41, DataW.weightsEach] at hz
      have h := hz t.data.toList.length (by simp)
      have h2 : t.data.toList.length = t.size := Array.length_toList
      unfold reachBytes at h
      omega
end Go.Proofs.Ytiponpcglienpaa
