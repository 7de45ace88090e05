/- A slice of tokens that comes in, opened: its length, and its tokens in memory that was there. -/
import Derived.Test.YtfoocpidahiglaaGreatDoorTSlice
import Derived.Test.YtfoocpidahiglaaGreatDoorTShort
namespace Go.Proofs.YtfoocpidahiglaaGreatDoor
open Go.ChangeShapes Go.WideShapes Go.ChangeAt Go.RowKit

theorem cellsTok : Tryz.prog.cellsOf 37 = 2 := by kernel_rfl
theorem cellsStrT : Tryz.prog.cellsOf 9 = 1 := by kernel_rfl
theorem weights_all {H : Type} {P : Program} {e : TypeId} {d : DataW H} {m : Nat} : ∀ {l : List (DataW H)}, d ∈ l → m ∈ d.weights P e → m ∈ DataW.weightsAll P e l := by
  intro l
  induction l with
  | nil => intro h; cases h
  | cons x l ih =>
    intro h hm
    rw [DataW.weightsAll]
    rcases List.mem_cons.1 h with rfl | h
    · exact List.mem_append.2 (.inl hm)
    · exact List.mem_append.2 (.inr (ih h hm))
set_option maxRecDepth 100000 in
theorem open_toks {H : Type} {enc : TypeId × Value → H} {W : World} {base : Nat} {v : Value} {d : DataW H} {ps : List MemPlace} (hval : Value.okWide Tryz.prog W .any base 23 v) (hd : DataW.Trod enc Tryz.prog W 0 (fun _ => true) true 23 v d ps)
    (hz : ∀ m ∈ d.weights Tryz.prog 23, m ≤ reachBytes) :
    ∃ (A : Option Addr) (n c : Nat) (ts : List (Int × ByteArray)), v = .slice A n c ∧ TsAt W W.heap.size A n ts ∧ (∀ t ∈ ts, t.2.size ≤ 140737488355328) ∧ (∀ t ∈ ts, (Lit.int .i64 t.1).wf = true) := by
  obtain ⟨A, n, c, rfl⟩ := okWide_slice Tryz.underlying23 hval
  obtain ⟨fuel, hf⟩ := hd
  rcases Go.Deep.open_slice_pairs Tryz.underlying23 Tryz.underlying37 cellsTok rfl rfl cellsInt cellsStrT hf with ⟨hcs, _⟩ | ⟨a, len, cap, m, f, V0, V1, D0, D1, P0, P1, hcs, _, hl, _, hm, hx, hi⟩
  · simp [Value.cells] at hcs
    obtain ⟨rfl, rfl, rfl⟩ := hcs
    exact ⟨none, 0, 0, [], rfl, ⟨rfl, fun j t ht => by simp at ht⟩, fun t ht => (by simp at ht), fun t ht => (by simp at ht)⟩
  · simp [Value.cells] at hcs
    obtain ⟨rfl, rfl, rfl⟩ := hcs
    simp only [if_true] at hm
    have each : ∀ i, i < n → ∃ q : Int × ByteArray, V0 i = .int .i64 q.1 ∧ V1 i = .string q.2 ∧ D1 i = .lit (.string q.2.data.toList) ∧ (Lit.int .i64 q.1).wf = true := by
      intro i hin
      obtain ⟨_, _, t0, t1⟩ := hi i (by omega)
      obtain ⟨z, e0, x0, w0⟩ := DataW.trod_int Tryz.underlying3 t0
      obtain ⟨s, e1, x1, w1⟩ := DataW.trod_string Tryz.underlying9 t1
      refine ⟨(z, s), by simpa using e0, by simpa using e1, ?_, ?_⟩
      · have := congrArg Prod.fst x1; exact this
      · exact w0
    obtain ⟨q, hq⟩ := Go.Deep.choose_lt each
    refine ⟨some a, n, c, (List.range n).map q, rfl, ⟨by simp, fun j t ht => ?_⟩, fun t ht => ?_, fun t ht => ?_⟩
    · rw [List.getElem?_map] at ht
      obtain ⟨i, hir, rfl⟩ := Option.map_eq_some_iff.1 ht
      have hij : i = j ∧ j < n := by
        obtain ⟨hlt, e⟩ := List.getElem?_eq_some_iff.1 hir
        simp at hlt e
        exact ⟨e.symm, hlt⟩
      obtain ⟨rfl, hlt⟩ := hij
      obtain ⟨g0, g1, _, _⟩ := hi i (by omega)
      obtain ⟨y0, y1, _, _⟩ := hq i hlt
      rw [y0] at g0
      rw [y1] at g1
      obtain ⟨b, off, spot⟩ := a
      have hspot : spot = none := by
        obtain ⟨h0, _, _, _⟩ := hi 0 (by omega)
        simpa [Addr.add] using World.cell?_spot h0
      subst hspot
      rw [add_plain] at g0 g1
      refine ⟨b, off, rfl, lt_of_cell g0, g0, by rw [Nat.add_assoc]; exact g1⟩
    · obtain ⟨i, hir, rfl⟩ := List.mem_map.1 ht
      have hin : i < n := by simpa using hir
      obtain ⟨_, _, y2, _⟩ := hq i hin
      simp only [Prod.mk.injEq] at hx
      have h1 := hz (q i).2.size (by
        rw [hx.1]
        simp only [DataW.weights, Tryz.underlying23]
        refine List.mem_cons.2 (.inr (List.mem_append.2 (.inl (weights_all (List.mem_map.2 ⟨i, hir, rfl⟩) ?_))))
        simp only [DataW.weights, Tryz.underlying37, List.map_cons, List.map_nil, DataW.weightsEach, y2]
        simp)
      have : reachBytes ≤ 140737488355328 := by decide
      omega
    · obtain ⟨i, hir, rfl⟩ := List.mem_map.1 ht
      exact (hq i (by simpa using hir)).2.2.2
end Go.Proofs.YtfoocpidahiglaaGreatDoor
