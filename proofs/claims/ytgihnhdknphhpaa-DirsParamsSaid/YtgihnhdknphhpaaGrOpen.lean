/- Documents and selections that come in, opened: as plain trees, their bulk bounding their size. (gen_gropen.py wrote it.) -/
import Derived.Test.YtgihnhdknphhpaaVCopy
import Derived.Test.YtgihnhdknphhpaaTr
import Derived.Test.YtgihnhdknphhpaaVSize
import Derived.SizedLaws
namespace Go.Proofs.Ytgihnhdknphhpaa
open Go.ChangeShapes Go.WideShapes Go.ChangeAt Go.RowKit

def OpenedV {H : Type} (W : World) (cs : List Value) (d : DataW H) : Prop := ∃ v c0 c1 c2 c3 c4, cs = [c0, c1, c2, c3, c4] ∧ VAt W W.heap.size v c0 c1 c2 c3 c4 ∧ sizeV v ≤ Rows.uptoBulk d
def OpenedM {H : Type} (W : World) (cs : List Value) (d : DataW H) : Prop := ∃ nm v c0 c1 c2 c3 c4, cs = [.string nm, c0, c1, c2, c3, c4] ∧ nm.size ≤ 9223372036854775807 ∧ VAt W W.heap.size v c0 c1 c2 c3 c4 ∧ nm.size + sizeV v ≤ Rows.uptoBulk d
theorem cells5 {W : World} {b o i : Nat} {c0 c1 c2 c3 c4 : Value} {n : Nat} (h : W.cells? 0 ⟨b, o + i, none⟩ n = some [c0, c1, c2, c3, c4]) : b < W.heap.size ∧ Five W b (o + i) c0 c1 c2 c3 c4 := by
  obtain ⟨_, hl, hat⟩ := World.cells?_some h
  simp only [List.length_cons, List.length_nil] at hl
  simp only [add_at] at hat
  have g0 := hat 0 (by omega)
  have g1 := hat 1 (by omega)
  have g2 := hat 2 (by omega)
  have g3 := hat 3 (by omega)
  have g4 := hat 4 (by omega)
  exact ⟨World.block_lt_of_cell? W _ (g0.trans rfl), g0.trans rfl, g1.trans rfl, g2.trans rfl, g3.trans rfl, g4.trans rfl⟩
theorem cells6 {W : World} {b o i : Nat} {c c0 c1 c2 c3 c4 : Value} {n : Nat} (h : W.cells? 0 ⟨b, o + i, none⟩ n = some [c, c0, c1, c2, c3, c4]) : b < W.heap.size ∧ W.cell? ⟨b, o + i, none⟩ = some c ∧ Five W b (o + i + 1) c0 c1 c2 c3 c4 := by
  obtain ⟨_, hl, hat⟩ := World.cells?_some h
  simp only [List.length_cons, List.length_nil] at hl
  simp only [add_at] at hat
  have g := hat 0 (by omega)
  have g0 := hat 1 (by omega)
  have g1 := hat 2 (by omega)
  have g2 := hat 3 (by omega)
  have g3 := hat 4 (by omega)
  have g4 := hat 5 (by omega)
  exact ⟨World.block_lt_of_cell? W _ (g.trans rfl), g.trans rfl, g0.trans rfl, g1.trans rfl, g2.trans rfl, g3.trans rfl, g4.trans rfl⟩
/-- A row of values out of its elements. -/
theorem list_opened {H : Type} {W : World} {b o : Nat} {T : List Value → Option (DataW H × List MemPlace)} (IH : ∀ cs x, T cs = some x → OpenedV W cs x.1) : ∀ (elems : List (DataW H × List MemPlace)) (j : Nat),
    (∀ i, i < elems.length → (W.cells? 0 ⟨b, o + (j + i) * 5, none⟩ 5).bind T = elems[i]?) →
    ∃ l : VL, l.len = elems.length ∧ LAt W W.heap.size l (some ⟨b, o, none⟩) j ∧ sizeL l ≤ Rows.uptoBulkAll (elems.map (·.1))
  | [], j, _ => ⟨.nil, rfl, by unfold LAt; trivial, by rw [sizeL]; exact Nat.zero_le _⟩
  | x :: elems, j, h => by
    have h0 := h 0 (by simp)
    rw [Nat.add_zero] at h0
    obtain ⟨cs, hc, ht⟩ := Option.bind_eq_some_iff.1 (h0.trans rfl)
    obtain ⟨v, c0, c1, c2, c3, c4, rfl, hv, hs⟩ := IH cs x ht
    obtain ⟨hlt, hF⟩ := cells5 hc
    obtain ⟨l, h1, h2, h4⟩ := list_opened IH elems (j + 1) (fun i hi => by
      have := h (i + 1) (by simp; omega)
      rw [show j + (i + 1) = j + 1 + i by omega] at this
      simpa using this)
    refine ⟨.cons v l, by rw [VL.len, h1, List.length_cons], by unfold LAt; exact ⟨⟨b, o, c0, c1, c2, c3, c4, rfl, hlt, hF, hv⟩, h2⟩, ?_⟩
    · rw [sizeL, List.map_cons, Rows.uptoBulkAll]; omega
theorem mems_opened {H : Type} {W : World} {b o : Nat} {T : List Value → Option (DataW H × List MemPlace)} (IH : ∀ cs x, T cs = some x → OpenedM W cs x.1) : ∀ (elems : List (DataW H × List MemPlace)) (j : Nat),
    (∀ i, i < elems.length → (W.cells? 0 ⟨b, o + (j + i) * 6, none⟩ 6).bind T = elems[i]?) →
    ∃ l : VM, l.len = elems.length ∧ MAt W W.heap.size l (some ⟨b, o, none⟩) j ∧ sizeM l ≤ Rows.uptoBulkAll (elems.map (·.1))
  | [], j, _ => ⟨.nil, rfl, by unfold MAt; trivial, by rw [sizeM]; exact Nat.zero_le _⟩
  | x :: elems, j, h => by
    have h0 := h 0 (by simp)
    rw [Nat.add_zero] at h0
    obtain ⟨cs, hc, ht⟩ := Option.bind_eq_some_iff.1 (h0.trans rfl)
    obtain ⟨nm, v, c0, c1, c2, c3, c4, rfl, hn, hv, hs⟩ := IH cs x ht
    obtain ⟨hlt, hN, hF⟩ := cells6 hc
    obtain ⟨l, h1, h2, h4⟩ := mems_opened IH elems (j + 1) (fun i hi => by
      have := h (i + 1) (by simp; omega)
      rw [show j + (i + 1) = j + 1 + i by omega] at this
      simpa using this)
    refine ⟨.cons nm v l, by rw [VM.len, h1, List.length_cons], by unfold MAt; exact ⟨⟨b, o, c0, c1, c2, c3, c4, rfl, hlt, hN, hn, hF, hv⟩, h2⟩, ?_⟩
    · rw [sizeM, List.map_cons, Rows.uptoBulkAll]; omega
theorem spot_none {W : World} {a : Addr} {n : Nat} {cs : List Value} (hn : 0 < n) (h : W.cells? 0 a n = some cs) : a.spot = none := by
  obtain ⟨_, hl, hat⟩ := World.cells?_some h
  have h2 := hat 0 (by omega)
  rw [List.getElem?_eq_getElem (by omega)] at h2
  have := World.cell?_spot h2
  obtain ⟨b, o, spot⟩ := a
  simpa [Addr.add] using this
/-- A slice of values that came in. -/
theorem slice_opened {H : Type} {enc : TypeId × Value → H} {W : World} {fuel : Nat} {cv : Value} {x : DataW H × List MemPlace} (IH : ∀ n, n < fuel → ∀ cs x, DataW.trod enc Try.prog W 0 (fun _ => true) true n 28 cs = some x → OpenedV W cs x.1)
    (h : DataW.trod enc Try.prog W 0 (fun _ => true) true fuel 25 [cv] = some x) : ∃ (l : VL) (A : Option Addr) (c : Nat), cv = .slice A l.len c ∧ l.len ≤ 9223372036854775807 ∧ LAt W W.heap.size l A 0 ∧ sizeL l + 1 ≤ Rows.uptoBulk x.1 := by
  rcases DataW.trod_slice Try.underlying25 h with ⟨hc, rfl⟩ | ⟨a, len, cap, elems, rest, n', hn', hc, rfl, _, hlc, hcm, hel, hat, _⟩
  · simp only [List.cons.injEq, and_true] at hc
    exact ⟨.nil, none, 0, hc, Nat.zero_le _, by unfold LAt; trivial, by simp [sizeL, Rows.uptoBulk]⟩
  · simp only [List.cons.injEq, and_true] at hc
    subst hel
    rw [cellsV] at hat
    obtain ⟨b, o, spot⟩ := a
    have hsp : 0 < elems.length → spot = none := fun hp => by
      have h1 := hat 0 hp
      rw [List.getElem?_eq_getElem hp] at h1
      obtain ⟨cs', hc', _⟩ := Option.bind_eq_some_iff.1 h1
      exact spot_none (by omega) hc'
    rcases Nat.eq_zero_or_pos elems.length with hz | hz
    · have he : elems = [] := List.eq_nil_of_length_eq_zero hz
      subst he
      exact ⟨.nil, _, cap, hc, Nat.zero_le _, by unfold LAt; trivial, by simp only [sizeL, Rows.uptoBulk]; omega⟩
    · obtain rfl := hsp hz
      obtain ⟨l, h1, h2, h4⟩ := list_opened (T := DataW.trod enc Try.prog W 0 (fun _ => true) true n' 28) (IH n' (by omega)) elems 0 (fun i hi => by
        have := hat i hi
        rwa [add_at, show i * 5 = (0 + i) * 5 by omega] at this)
      refine ⟨l, _, cap, by rw [hc, h1], by rw [h1]; exact Nat.le_trans hlc hcm, h2, ?_⟩
      · simp only [Rows.uptoBulk]; omega
theorem mslice_opened {H : Type} {enc : TypeId × Value → H} {W : World} {fuel : Nat} {cv : Value} {x : DataW H × List MemPlace} (IH : ∀ n, n < fuel → ∀ cs x, DataW.trod enc Try.prog W 0 (fun _ => true) true n 28 cs = some x → OpenedV W cs x.1)
    (h : DataW.trod enc Try.prog W 0 (fun _ => true) true fuel 26 [cv] = some x) : ∃ (l : VM) (A : Option Addr) (c : Nat), cv = .slice A l.len c ∧ l.len ≤ 9223372036854775807 ∧ MAt W W.heap.size l A 0 ∧ sizeM l + 1 ≤ Rows.uptoBulk x.1 := by
  rcases DataW.trod_slice Try.underlying26 h with ⟨hc, rfl⟩ | ⟨a, len, cap, elems, rest, n', hn', hc, rfl, _, hlc, hcm, hel, hat, _⟩
  · simp only [List.cons.injEq, and_true] at hc
    exact ⟨.nil, none, 0, hc, Nat.zero_le _, by unfold MAt; trivial, by simp [sizeM, Rows.uptoBulk]⟩
  · simp only [List.cons.injEq, and_true] at hc
    subst hel
    rw [cellsM] at hat
    obtain ⟨b, o, spot⟩ := a
    have hsp : 0 < elems.length → spot = none := fun hp => by
      have h1 := hat 0 hp
      rw [List.getElem?_eq_getElem hp] at h1
      obtain ⟨cs', hc', _⟩ := Option.bind_eq_some_iff.1 h1
      exact spot_none (by omega) hc'
    have IHM : ∀ cs x, DataW.trod enc Try.prog W 0 (fun _ => true) true n' 57 cs = some x → OpenedM W cs x.1 := by
      intro cs x ht
      obtain ⟨ys, n2, hn2, rfl, hl2, hyl, hf2⟩ := DataW.trod_struct Try.underlying57 ht
      rw [cellsM] at hl2
      obtain ⟨d, d0, d1, d2, d3, d4, rfl⟩ := six_list hl2
      have p0 : DataW.trod enc Try.prog W 0 (fun _ => true) true n2 9 [d] = ys[0]? := by have h' : DataW.trod enc Try.prog W 0 (fun _ => true) true n2 9 (([d, d0, d1, d2, d3, d4].drop 0).take (Try.prog.cellsOf 9)) = ys[0]? := hf2 0 _ rfl; rw [cellsS] at h'; exact h'
      have p1 : DataW.trod enc Try.prog W 0 (fun _ => true) true n2 28 [d0, d1, d2, d3, d4] = ys[1]? := by have h' : DataW.trod enc Try.prog W 0 (fun _ => true) true n2 28 (([d, d0, d1, d2, d3, d4].drop 1).take (Try.prog.cellsOf 28)) = ys[1]? := hf2 1 _ rfl; rw [cellsV] at h'; exact h'
      match ys, hyl with
      | [z0, z1], _ =>
        obtain ⟨t, e2, hz0, htz⟩ := DataW.trod_string Try.underlying9 (p0.trans rfl)
        obtain ⟨v, c0, c1, c2, c3, c4, hcs, hv, hs⟩ := IH n2 (by omega) _ z1 (p1.trans rfl)
        simp only [List.cons.injEq, and_true] at e2 hcs
        obtain ⟨rfl, rfl, rfl, rfl, rfl⟩ := hcs
        subst e2
        refine ⟨t, v, _, _, _, _, _, rfl, htz, hv, ?_⟩
        · simp only [List.map_cons, List.map_nil, Rows.uptoBulk, Rows.uptoBulkAll, hz0]
          have : t.data.toList.length = t.size := Array.length_toList
          omega
    rcases Nat.eq_zero_or_pos elems.length with hz | hz
    · have he : elems = [] := List.eq_nil_of_length_eq_zero hz
      subst he
      exact ⟨.nil, _, cap, hc, Nat.zero_le _, by unfold MAt; trivial, by simp only [sizeM, Rows.uptoBulk]; omega⟩
    · obtain rfl := hsp hz
      obtain ⟨l, h1, h2, h4⟩ := mems_opened (T := DataW.trod enc Try.prog W 0 (fun _ => true) true n' 57) IHM elems 0 (fun i hi => by
        have := hat i hi
        rwa [add_at, show i * 6 = (0 + i) * 6 by omega] at this)
      refine ⟨l, _, cap, by rw [hc, h1], by rw [h1]; exact Nat.le_trans hlc hcm, h2, ?_⟩
      · simp only [Rows.uptoBulk]; omega
set_option maxRecDepth 100000 in
theorem value_opened {H : Type} {enc : TypeId × Value → H} {W : World} : ∀ (fuel : Nat) (cs : List Value) (x : DataW H × List MemPlace), DataW.trod enc Try.prog W 0 (fun _ => true) true fuel 28 cs = some x → OpenedV W cs x.1 := by
  intro fuel
  induction fuel using Nat.strongRecOn with
  | ind fuel ih =>
    intro cs x h
    obtain ⟨xs, n, rfl, rfl, hl, hxl, hf⟩ := DataW.trod_struct Try.underlying28 h
    rw [cellsV] at hl
    obtain ⟨c0, c1, c2, c3, c4, rfl⟩ := five_list hl
    have f0 : DataW.trod enc Try.prog W 0 (fun _ => true) true n 3 [c0] = xs[0]? := by have h' : DataW.trod enc Try.prog W 0 (fun _ => true) true n 3 (([c0, c1, c2, c3, c4].drop 0).take (Try.prog.cellsOf 3)) = xs[0]? := hf 0 _ rfl; rw [cellsI] at h'; exact h'
    have f1 : DataW.trod enc Try.prog W 0 (fun _ => true) true n 2 [c1] = xs[1]? := by have h' : DataW.trod enc Try.prog W 0 (fun _ => true) true n 2 (([c0, c1, c2, c3, c4].drop 1).take (Try.prog.cellsOf 2)) = xs[1]? := hf 1 _ rfl; rw [cellsI64] at h'; exact h'
    have f2 : DataW.trod enc Try.prog W 0 (fun _ => true) true n 9 [c2] = xs[2]? := by have h' : DataW.trod enc Try.prog W 0 (fun _ => true) true n 9 (([c0, c1, c2, c3, c4].drop 2).take (Try.prog.cellsOf 9)) = xs[2]? := hf 2 _ rfl; rw [cellsS] at h'; exact h'
    have f3 : DataW.trod enc Try.prog W 0 (fun _ => true) true n 25 [c3] = xs[3]? := by have h' : DataW.trod enc Try.prog W 0 (fun _ => true) true n 25 (([c0, c1, c2, c3, c4].drop 3).take (Try.prog.cellsOf 25)) = xs[3]? := hf 3 _ rfl; rw [cellsLV] at h'; exact h'
    have f4 : DataW.trod enc Try.prog W 0 (fun _ => true) true n 26 [c4] = xs[4]? := by have h' : DataW.trod enc Try.prog W 0 (fun _ => true) true n 26 (([c0, c1, c2, c3, c4].drop 4).take (Try.prog.cellsOf 26)) = xs[4]? := hf 4 _ rfl; rw [cellsLM] at h'; exact h'
    match xs, hxl with
    | [y0, y1, y2, y3, y4], _ =>
      obtain ⟨k, e0, hy0, _⟩ := DataW.trod_int Try.underlying3 (f0.trans rfl)
      obtain ⟨m, e1, hy1, _⟩ := DataW.trod_int Try.underlying2 (f1.trans rfl)
      obtain ⟨t, e2, hy2, ht⟩ := DataW.trod_string Try.underlying9 (f2.trans rfl)
      obtain ⟨l, A, c, h3, g3, h4, s3⟩ := slice_opened (fun n' hn' => ih n' (by omega)) (f3.trans rfl)
      obtain ⟨l', A', c', h5, g5, h6, s5⟩ := mslice_opened (fun n' hn' => ih n' (by omega)) (f4.trans rfl)
      simp only [List.cons.injEq, and_true] at e0 e1 e2
      subst e0 e1 e2 h3 h5
      refine ⟨.mk k m t l l', _, _, _, _, _, rfl, by unfold VAt; exact ⟨rfl, rfl, rfl, ht, ⟨A, c, rfl, g3, h4⟩, A', c', rfl, g5, h6⟩, ?_⟩
      simp only [List.map_cons, List.map_nil, Rows.uptoBulk, Rows.uptoBulkAll, hy0, hy1, hy2]
      have : t.data.toList.length = t.size := Array.length_toList
      rw [sizeV]
      omega
theorem cells_out {W : World} {b o n : Nat} {cs : List Value} (hn : 0 < n) (h : W.cells? 0 ⟨b, o, none⟩ n = some cs) : b < W.heap.size ∧ cs.length = n ∧ ∀ (j : Nat) u, cs[j]? = some u → W.cell? ⟨b, o + j, none⟩ = some u := by
  obtain ⟨_, hl, hat⟩ := World.cells?_some h
  simp only [add_at] at hat
  have g0 := hat 0 hn
  rw [List.getElem?_eq_getElem (by omega)] at g0
  exact ⟨World.block_lt_of_cell? W _ g0, hl, fun j u hu => (hat j (by have := (List.getElem?_eq_some_iff.1 hu).1; omega)).trans hu⟩
theorem spot_out {W : World} {a : Addr} {n : Nat} {cs : List Value} (hn : 0 < n) (h : W.cells? 0 a n = some cs) : a.spot = none := by
  obtain ⟨_, hl, hat⟩ := World.cells?_some h
  have h2 := hat 0 (by omega)
  rw [List.getElem?_eq_getElem (by omega)] at h2
  have := World.cell?_spot h2
  obtain ⟨b, o, spot⟩ := a
  simpa [Addr.add] using this
theorem rowB_opened {H α : Type} {f : α → TrS} {k : Nat} {sz : α → Nat} {W : World} {b o : Nat} {T : List Value → Option (DataW H × List MemPlace)} (hk : ∀ a, (f a).len = k) (hkp : 0 < k) (IH : ∀ cs x, T cs = some x → ∃ a, TS W (fun b => b < W.heap.size) (f a) cs ∧ sz a ≤ Rows.uptoBulk x.1) : ∀ (elems : List (DataW H × List MemPlace)) (j : Nat),
    (∀ i, i < elems.length → (W.cells? 0 ⟨b, o + (j + i) * k, none⟩ k).bind T = elems[i]?) →
    ∃ l : List α, l.length = elems.length ∧ RowT W (fun b => b < W.heap.size) (rowOf f l) (some ⟨b, o + j * k, none⟩) ∧ (l.map sz).sum ≤ Rows.uptoBulkAll (elems.map (·.1))
  | [], j, _ => ⟨[], rfl, by rw [rowOf]; unfold RowT; trivial, Nat.zero_le _⟩
  | x :: elems, j, h => by
    have h0 := h 0 (by simp)
    rw [Nat.add_zero] at h0
    obtain ⟨cs, hc, ht⟩ := Option.bind_eq_some_iff.1 (h0.trans rfl)
    obtain ⟨a, ha, hsz⟩ := IH cs x ht
    obtain ⟨hlt, hl, hF⟩ := cells_out hkp hc
    obtain ⟨l, h1, h2, h4⟩ := rowB_opened hk hkp IH elems (j + 1) (fun i hi => by
      have := h (i + 1) (by simp; omega)
      rw [show j + (i + 1) = j + 1 + i by omega] at this
      simpa using this)
    refine ⟨a :: l, by simp [h1], ?_, by rw [List.map_cons, List.map_cons, List.sum_cons, Rows.uptoBulkAll]; omega⟩
    rw [rowOf]
    unfold RowT
    refine ⟨b, o + j * k, cs, rfl, hlt, hF, ha, ?_⟩
    rw [hk]
    rwa [show o + j * k + k = o + (j + 1) * k by rw [Nat.succ_mul]; omega]
theorem slcB_opened {H α : Type} {enc : TypeId × Value → H} {W : World} {f : α → TrS} {k fuel : Nat} {st et : TypeId} {cv : Value} {x : DataW H × List MemPlace} {sz : α → Nat} (hu : Try.prog.underlying st = some (.slice et)) (hc : Try.prog.cellsOf et = k) (hk : ∀ a, (f a).len = k) (hkp : 0 < k)
    (IH : ∀ n, n < fuel → ∀ cs x, DataW.trod enc Try.prog W 0 (fun _ => true) true n et cs = some x → ∃ a, TS W (fun b => b < W.heap.size) (f a) cs ∧ sz a ≤ Rows.uptoBulk x.1)
    (h : DataW.trod enc Try.prog W 0 (fun _ => true) true fuel st [cv] = some x) : ∃ (l : List α) (A : Option Addr) (c : Nat), cv = .slice A l.length c ∧ l.length ≤ 9223372036854775807 ∧ RowT W (fun b => b < W.heap.size) (rowOf f l) A ∧ (l.map sz).sum + 1 ≤ Rows.uptoBulk x.1 := by
  rcases DataW.trod_slice hu h with ⟨hc, rfl⟩ | ⟨a, len, cap, elems, rest, n', hn', hcv, rfl, _, hlc, hcm, hel, hat, _⟩
  · simp only [List.cons.injEq, and_true] at hc
    exact ⟨[], none, 0, hc, Nat.zero_le _, by rw [rowOf]; unfold RowT; trivial, by simp [Rows.uptoBulk]⟩
  · simp only [List.cons.injEq, and_true] at hcv
    subst hel
    rw [hc] at hat
    obtain ⟨b, o, spot⟩ := a
    rcases Nat.eq_zero_or_pos elems.length with hz | hz
    · have he : elems = [] := List.eq_nil_of_length_eq_zero hz
      subst he
      exact ⟨[], _, cap, hcv, Nat.zero_le _, by rw [rowOf]; unfold RowT; trivial, by simp [Rows.uptoBulk]⟩
    · have hsp : spot = none := by
        have h1 := hat 0 hz
        rw [List.getElem?_eq_getElem hz] at h1
        obtain ⟨cs', hc', _⟩ := Option.bind_eq_some_iff.1 h1
        have h3 := spot_out hkp hc'
        simpa [Addr.add] using h3
      subst hsp
      obtain ⟨l, h1, h2, h5⟩ := rowB_opened (T := DataW.trod enc Try.prog W 0 (fun _ => true) true n' et) (sz := sz) hk hkp (IH n' (by omega)) elems 0 (fun i hi => by
        have := hat i hi
        rwa [add_at, show i * k = (0 + i) * k by rw [Nat.zero_add]] at this)
      refine ⟨l, _, cap, by rw [hcv, h1], by rw [h1]; exact Nat.le_trans hlc hcm, by rw [Nat.zero_mul, Nat.add_zero] at h2; exact h2, by simp only [Rows.uptoBulk]; omega⟩
mutual
theorem vat_vp {w : World} {B : Nat} : ∀ (v : VT) (c0 c1 c2 c3 c4 : Value), VAt w B v c0 c1 c2 c3 c4 → VP w (fun b => b < B) v c0 c1 c2 c3 c4
  | .mk k n s l m, c0, c1, c2, c3, c4, h => by
    unfold VAt at h
    unfold VP
    obtain ⟨h0, h1, h2, hs, ⟨A, c, h3, g3, h4⟩, A', c', h5, g5, h6⟩ := h
    exact ⟨h0, h1, h2, hs, ⟨A, c, h3, g3, lat_lp l A 0 h4⟩, A', c', h5, g5, mat_mp m A' 0 h6⟩
theorem lat_lp {w : World} {B : Nat} : ∀ (l : VL) (A : Option Addr) (j : Nat), LAt w B l A j → LP w (fun b => b < B) l A j
  | .nil, _, _, _ => by unfold LP; trivial
  | .cons v t, A, j, h => by
    unfold LAt at h
    unfold LP
    obtain ⟨⟨b, o, c0, c1, c2, c3, c4, hA, hlt, hf, hv⟩, ht⟩ := h
    exact ⟨⟨b, o, c0, c1, c2, c3, c4, hA, hlt, hf, vat_vp v _ _ _ _ _ hv⟩, lat_lp t A (j + 1) ht⟩
theorem mat_mp {w : World} {B : Nat} : ∀ (l : VM) (A : Option Addr) (j : Nat), MAt w B l A j → MP w (fun b => b < B) l A j
  | .nil, _, _, _ => by unfold MP; trivial
  | .cons nm v t, A, j, h => by
    unfold MAt at h
    unfold MP
    obtain ⟨⟨b, o, c0, c1, c2, c3, c4, hA, hlt, hn, hz, hf, hv⟩, ht⟩ := h
    exact ⟨⟨b, o, c0, c1, c2, c3, c4, hA, hlt, hn, hz, hf, vat_vp v _ _ _ _ _ hv⟩, mat_mp t A (j + 1) ht⟩
end
theorem mat_row {w : World} {B : Nat} {m : VM} {A : Option Addr} (h : MAt w B m A 0) : RowT w (fun b => b < B) (encM m) A := by
  have := mp_tl _ _ _ (mat_mp _ _ _ h)
  rwa [Nat.zero_mul, shiftA_zero] at this
theorem vat_row {w : World} {B : Nat} {v : VT} {c0 c1 c2 c3 c4 : Value} (h : VAt w B v c0 c1 c2 c3 c4) : TS w (fun b => b < B) (encV v) [c0, c1, c2, c3, c4] := vp_ts _ _ _ _ _ _ (vat_vp _ _ _ _ _ _ h)
/-- Sizes, as the bulk counts them. -/
def szP (p : VarT) : Nat := p.name.size + 2 + sizeV p.v
def szDr (d : DirT) : Nat := d.1.size + 2 + sizeM d.2
mutual
def szSel : SelT → Nat
  | .mk _ a n g d o s => a.size + n.size + o.size + 4 + sizeM g + (d.map szDr).sum + szSels s
def szSels : SelL → Nat
  | .nil => 0
  | .cons x t => szSel x + szSels t
end
def szOp (x : OpT) : Nat := x.name.size + 2 + (x.vars.map szP).sum + (x.dirs.map szDr).sum + szSels x.sels
def szFr (x : FragT) : Nat := x.name.size + x.on.size + 2 + (x.dirs.map szDr).sum + szSels x.sels
structure DocT where
  ops : List OpT
  frags : List FragT
def encDoc (d : DocT) : TrS := .cons (.row (rowOf encOp d.ops)) (.cons (.row (rowOf encF d.frags)) .nil)
def szDoc (d : DocT) : Nat := (d.ops.map szOp).sum + (d.frags.map szFr).sum
def toSL : List SelT → SelL
  | [] => .nil
  | x :: t => .cons x (toSL t)
theorem toSL_len : ∀ l : List SelT, (toSL l).len = l.length
  | [] => rfl
  | x :: t => by rw [toSL, SelL.len, toSL_len t, List.length_cons]
theorem toSL_enc : ∀ l : List SelT, encSL (toSL l) = rowOf encS l
  | [] => by rw [toSL, encSL, rowOf]
  | x :: t => by rw [toSL, encSL, rowOf, toSL_enc t]
theorem toSL_sz : ∀ l : List SelT, szSels (toSL l) = (l.map szSel).sum
  | [] => by rw [toSL, szSels]; rfl
  | x :: t => by rw [toSL, szSels, toSL_sz t, List.map_cons, List.sum_cons]
theorem encS_len : ∀ x : SelT, (encS x).len = 7
  | .mk _ _ _ _ _ _ _ => by rw [encS]; rfl
theorem goL1 {cs : List Value} (h : cs.length = 1) : ∃ c0, cs = [c0] := by
  match cs, h with
  | [c0], _ => exact ⟨c0, rfl⟩
theorem goL2 {cs : List Value} (h : cs.length = 2) : ∃ c0 c1, cs = [c0, c1] := by
  match cs, h with
  | [c0, c1], _ => exact ⟨c0, c1, rfl⟩
theorem goL4 {cs : List Value} (h : cs.length = 4) : ∃ c0 c1 c2 c3, cs = [c0, c1, c2, c3] := by
  match cs, h with
  | [c0, c1, c2, c3], _ => exact ⟨c0, c1, c2, c3, rfl⟩
theorem goL5 {cs : List Value} (h : cs.length = 5) : ∃ c0 c1 c2 c3 c4, cs = [c0, c1, c2, c3, c4] := by
  match cs, h with
  | [c0, c1, c2, c3, c4], _ => exact ⟨c0, c1, c2, c3, c4, rfl⟩
theorem goL7 {cs : List Value} (h : cs.length = 7) : ∃ c0 c1 c2 c3 c4 c5 c6, cs = [c0, c1, c2, c3, c4, c5, c6] := by
  match cs, h with
  | [c0, c1, c2, c3, c4, c5, c6], _ => exact ⟨c0, c1, c2, c3, c4, c5, c6, rfl⟩
theorem goL10 {cs : List Value} (h : cs.length = 10) : ∃ c0 c1 c2 c3 c4 c5 c6 c7 c8 c9, cs = [c0, c1, c2, c3, c4, c5, c6, c7, c8, c9] := by
  match cs, h with
  | [c0, c1, c2, c3, c4, c5, c6, c7, c8, c9], _ => exact ⟨c0, c1, c2, c3, c4, c5, c6, c7, c8, c9, rfl⟩
theorem goStr : Try.prog.cellsOf 9 = 1 := by kernel_rfl
theorem goInt : Try.prog.cellsOf 3 = 1 := by kernel_rfl
theorem goBool : Try.prog.cellsOf 4 = 1 := by kernel_rfl
theorem goVal : Try.prog.cellsOf 28 = 5 := by kernel_rfl
theorem goSM : Try.prog.cellsOf 26 = 1 := by kernel_rfl
theorem goSD : Try.prog.cellsOf 39 = 1 := by kernel_rfl
theorem goSS : Try.prog.cellsOf 40 = 1 := by kernel_rfl
theorem goSP : Try.prog.cellsOf 43 = 1 := by kernel_rfl
theorem goSO : Try.prog.cellsOf 46 = 1 := by kernel_rfl
theorem goSF : Try.prog.cellsOf 47 = 1 := by kernel_rfl
theorem goTy : Try.prog.cellsOf 24 = 3 := by kernel_rfl
theorem goDir : Try.prog.cellsOf 37 = 2 := by kernel_rfl
theorem goSel : Try.prog.cellsOf 42 = 7 := by kernel_rfl
theorem goPar : Try.prog.cellsOf 93 = 10 := by kernel_rfl
theorem goOp : Try.prog.cellsOf 45 = 5 := by kernel_rfl
theorem goFr : Try.prog.cellsOf 74 = 4 := by kernel_rfl
theorem goDoc : Try.prog.cellsOf 49 = 2 := by kernel_rfl
theorem goty {H : Type} {enc : TypeId × Value → H} {W : World} {fuel : Nat} {c0 c1 c2 : Value} {x : DataW H × List MemPlace} (h : DataW.trod enc Try.prog W 0 (fun _ => true) true fuel 24 [c0, c1, c2] = some x) : ∃ n l m, c0 = .string n ∧ c1 = .int .i64 l ∧ c2 = .int .i64 m ∧ n.size ≤ 9223372036854775807 := by
  obtain ⟨xs, n, rfl, rfl, hl, hxl, hf⟩ := DataW.trod_struct Try.underlying24 h
  have f0 : DataW.trod enc Try.prog W 0 (fun _ => true) true n 9 [c0] = xs[0]? := by have h' : DataW.trod enc Try.prog W 0 (fun _ => true) true n 9 (([c0, c1, c2].drop 0).take (Try.prog.cellsOf 9)) = xs[0]? := hf 0 _ rfl; rw [goStr] at h'; exact h'
  have f1 : DataW.trod enc Try.prog W 0 (fun _ => true) true n 3 [c1] = xs[1]? := by have h' : DataW.trod enc Try.prog W 0 (fun _ => true) true n 3 (([c0, c1, c2].drop 1).take (Try.prog.cellsOf 3)) = xs[1]? := hf 1 _ rfl; rw [goInt] at h'; exact h'
  have f2 : DataW.trod enc Try.prog W 0 (fun _ => true) true n 3 [c2] = xs[2]? := by have h' : DataW.trod enc Try.prog W 0 (fun _ => true) true n 3 (([c0, c1, c2].drop 2).take (Try.prog.cellsOf 3)) = xs[2]? := hf 2 _ rfl; rw [goInt] at h'; exact h'
  match xs, hxl with
  | [y0, y1, y2], _ =>
    obtain ⟨nm, e0, _, ht0⟩ := DataW.trod_string Try.underlying9 (f0.trans rfl); simp only [List.cons.injEq, and_true] at e0; subst e0
    obtain ⟨l, e1, _, _⟩ := DataW.trod_int Try.underlying3 (f1.trans rfl); simp only [List.cons.injEq, and_true] at e1; subst e1
    obtain ⟨m, e2, _, _⟩ := DataW.trod_int Try.underlying3 (f2.trans rfl); simp only [List.cons.injEq, and_true] at e2; subst e2
    exact ⟨nm, l, m, rfl, rfl, rfl, ht0⟩
set_option maxRecDepth 100000 in
theorem openB_dir {H : Type} {enc : TypeId × Value → H} {W : World} (fuel : Nat) (cs : List Value) (x : DataW H × List MemPlace) (h : DataW.trod enc Try.prog W 0 (fun _ => true) true fuel 37 cs = some x) : ∃ a : DirT, TS W (fun b => b < W.heap.size) (encD a) cs ∧ szDr a ≤ Rows.uptoBulk x.1 := by
  obtain ⟨xs, n, rfl, rfl, hl, hxl, hf⟩ := DataW.trod_struct Try.underlying37 h
  rw [goDir] at hl
  obtain ⟨c0, c1, rfl⟩ := goL2 hl
  have f0 : DataW.trod enc Try.prog W 0 (fun _ => true) true n 9 [c0] = xs[0]? := by have h' : DataW.trod enc Try.prog W 0 (fun _ => true) true n 9 (([c0, c1].drop 0).take (Try.prog.cellsOf 9)) = xs[0]? := hf 0 _ rfl; rw [goStr] at h'; exact h'
  have f1 : DataW.trod enc Try.prog W 0 (fun _ => true) true n 26 [c1] = xs[1]? := by have h' : DataW.trod enc Try.prog W 0 (fun _ => true) true n 26 (([c0, c1].drop 1).take (Try.prog.cellsOf 26)) = xs[1]? := hf 1 _ rfl; rw [goSM] at h'; exact h'
  match xs, hxl with
  | [y0, y1], _ =>
    obtain ⟨nm, e0, hy0, ht0⟩ := DataW.trod_string Try.underlying9 (f0.trans rfl); simp only [List.cons.injEq, and_true] at e0; subst e0
    obtain ⟨l, A1, k1, e1, g1, m1, s1⟩ := mslice_opened (fun n' _ cs x h => value_opened n' cs x h) (f1.trans rfl); subst e1
    refine ⟨(nm, l), ?_, ?_⟩
    · unfold encD
      simp only [TS, TP]
      exact ⟨_, _, rfl, ⟨rfl, ht0⟩, _, _, rfl, ⟨A1, k1, by rw [encM_len], by rw [encM_len]; exact g1, mat_row m1⟩, rfl⟩
    · subst hy0
      simp only [szDr, Rows.uptoBulk, Rows.uptoBulkAll, List.map_cons, List.map_nil]
      have e0 : nm.data.toList.length = nm.size := by simp
      omega
set_option maxRecDepth 100000 in
theorem openB_sel {H : Type} {enc : TypeId × Value → H} {W : World} : ∀ (fuel : Nat) (cs : List Value) (x : DataW H × List MemPlace), DataW.trod enc Try.prog W 0 (fun _ => true) true fuel 42 cs = some x → ∃ a : SelT, TS W (fun b => b < W.heap.size) (encS a) cs ∧ szSel a ≤ Rows.uptoBulk x.1 := by
  intro fuel
  induction fuel using Nat.strongRecOn with
  | ind fuel ih =>
    intro cs x h
    obtain ⟨xs, n, rfl, rfl, hl, hxl, hf⟩ := DataW.trod_struct Try.underlying42 h
    rw [goSel] at hl
    obtain ⟨c0, c1, c2, c3, c4, c5, c6, rfl⟩ := goL7 hl
    have f0 : DataW.trod enc Try.prog W 0 (fun _ => true) true n 3 [c0] = xs[0]? := by have h' : DataW.trod enc Try.prog W 0 (fun _ => true) true n 3 (([c0, c1, c2, c3, c4, c5, c6].drop 0).take (Try.prog.cellsOf 3)) = xs[0]? := hf 0 _ rfl; rw [goInt] at h'; exact h'
    have f1 : DataW.trod enc Try.prog W 0 (fun _ => true) true n 9 [c1] = xs[1]? := by have h' : DataW.trod enc Try.prog W 0 (fun _ => true) true n 9 (([c0, c1, c2, c3, c4, c5, c6].drop 1).take (Try.prog.cellsOf 9)) = xs[1]? := hf 1 _ rfl; rw [goStr] at h'; exact h'
    have f2 : DataW.trod enc Try.prog W 0 (fun _ => true) true n 9 [c2] = xs[2]? := by have h' : DataW.trod enc Try.prog W 0 (fun _ => true) true n 9 (([c0, c1, c2, c3, c4, c5, c6].drop 2).take (Try.prog.cellsOf 9)) = xs[2]? := hf 2 _ rfl; rw [goStr] at h'; exact h'
    have f3 : DataW.trod enc Try.prog W 0 (fun _ => true) true n 26 [c3] = xs[3]? := by have h' : DataW.trod enc Try.prog W 0 (fun _ => true) true n 26 (([c0, c1, c2, c3, c4, c5, c6].drop 3).take (Try.prog.cellsOf 26)) = xs[3]? := hf 3 _ rfl; rw [goSM] at h'; exact h'
    have f4 : DataW.trod enc Try.prog W 0 (fun _ => true) true n 39 [c4] = xs[4]? := by have h' : DataW.trod enc Try.prog W 0 (fun _ => true) true n 39 (([c0, c1, c2, c3, c4, c5, c6].drop 4).take (Try.prog.cellsOf 39)) = xs[4]? := hf 4 _ rfl; rw [goSD] at h'; exact h'
    have f5 : DataW.trod enc Try.prog W 0 (fun _ => true) true n 9 [c5] = xs[5]? := by have h' : DataW.trod enc Try.prog W 0 (fun _ => true) true n 9 (([c0, c1, c2, c3, c4, c5, c6].drop 5).take (Try.prog.cellsOf 9)) = xs[5]? := hf 5 _ rfl; rw [goStr] at h'; exact h'
    have f6 : DataW.trod enc Try.prog W 0 (fun _ => true) true n 40 [c6] = xs[6]? := by have h' : DataW.trod enc Try.prog W 0 (fun _ => true) true n 40 (([c0, c1, c2, c3, c4, c5, c6].drop 6).take (Try.prog.cellsOf 40)) = xs[6]? := hf 6 _ rfl; rw [goSS] at h'; exact h'
    match xs, hxl with
    | [y0, y1, y2, y3, y4, y5, y6], _ =>
      obtain ⟨kd, e0, hy0, _⟩ := DataW.trod_int Try.underlying3 (f0.trans rfl); simp only [List.cons.injEq, and_true] at e0; subst e0
      obtain ⟨al, e1, hy1, ht1⟩ := DataW.trod_string Try.underlying9 (f1.trans rfl); simp only [List.cons.injEq, and_true] at e1; subst e1
      obtain ⟨nm, e2, hy2, ht2⟩ := DataW.trod_string Try.underlying9 (f2.trans rfl); simp only [List.cons.injEq, and_true] at e2; subst e2
      obtain ⟨ag, A3, k3, e3, g3, m3, s3⟩ := mslice_opened (fun n' _ cs x h => value_opened n' cs x h) (f3.trans rfl); subst e3
      obtain ⟨ds, A4, k4, e4, g4, r4, s4⟩ := slcB_opened (f := encD) (sz := szDr) Try.underlying39 goDir (fun _ => rfl) (by decide) (fun n' _ => openB_dir n') (f4.trans rfl); subst e4
      obtain ⟨on, e5, hy5, ht5⟩ := DataW.trod_string Try.underlying9 (f5.trans rfl); simp only [List.cons.injEq, and_true] at e5; subst e5
      obtain ⟨sl, A6, k6, e6, g6, r6, s6⟩ := slcB_opened (f := encS) (sz := szSel) Try.underlying40 goSel encS_len (by decide) (fun n' hn' => fun cs x h => ih n' (by omega) cs x h) (f6.trans rfl); subst e6
      have q6 := toSL_sz sl
      refine ⟨.mk kd al nm ag ds on (toSL sl), ?_, ?_⟩
      · rw [encS]
        simp only [TS, TP]
        exact ⟨_, _, rfl, ⟨rfl, trivial⟩, _, _, rfl, ⟨rfl, ht1⟩, _, _, rfl, ⟨rfl, ht2⟩, _, _, rfl, ⟨A3, k3, by rw [encM_len], by rw [encM_len]; exact g3, mat_row m3⟩, _, _, rfl, ⟨A4, k4, by rw [rowOf_len], by rw [rowOf_len]; exact g4, r4⟩, _, _, rfl, ⟨rfl, ht5⟩, _, _, rfl, ⟨A6, k6, by rw [encSL_len, toSL_len], by rw [encSL_len, toSL_len]; exact g6, by rw [toSL_enc]; exact r6⟩, rfl⟩
      · subst hy1 hy2 hy5
        simp only [szSel, Rows.uptoBulk, Rows.uptoBulkAll, List.map_cons, List.map_nil]
        have e1 : al.data.toList.length = al.size := by simp
        have e2 : nm.data.toList.length = nm.size := by simp
        have e5 : on.data.toList.length = on.size := by simp
        omega
set_option maxRecDepth 100000 in
theorem openB_var {H : Type} {enc : TypeId × Value → H} {W : World} (fuel : Nat) (cs : List Value) (x : DataW H × List MemPlace) (h : DataW.trod enc Try.prog W 0 (fun _ => true) true fuel 93 cs = some x) : ∃ a : VarT, TS W (fun b => b < W.heap.size) (encVar a) cs ∧ szP a ≤ Rows.uptoBulk x.1 := by
  obtain ⟨xs, n, rfl, rfl, hl, hxl, hf⟩ := DataW.trod_struct Try.underlying93 h
  rw [goPar] at hl
  obtain ⟨c0, c1, c2, c3, c4, c5, c6, c7, c8, c9, rfl⟩ := goL10 hl
  have f0 : DataW.trod enc Try.prog W 0 (fun _ => true) true n 9 [c0] = xs[0]? := by have h' : DataW.trod enc Try.prog W 0 (fun _ => true) true n 9 (([c0, c1, c2, c3, c4, c5, c6, c7, c8, c9].drop 0).take (Try.prog.cellsOf 9)) = xs[0]? := hf 0 _ rfl; rw [goStr] at h'; exact h'
  have f1 : DataW.trod enc Try.prog W 0 (fun _ => true) true n 24 [c1, c2, c3] = xs[1]? := by have h' : DataW.trod enc Try.prog W 0 (fun _ => true) true n 24 (([c0, c1, c2, c3, c4, c5, c6, c7, c8, c9].drop 1).take (Try.prog.cellsOf 24)) = xs[1]? := hf 1 _ rfl; rw [goTy] at h'; exact h'
  have f2 : DataW.trod enc Try.prog W 0 (fun _ => true) true n 4 [c4] = xs[2]? := by have h' : DataW.trod enc Try.prog W 0 (fun _ => true) true n 4 (([c0, c1, c2, c3, c4, c5, c6, c7, c8, c9].drop 4).take (Try.prog.cellsOf 4)) = xs[2]? := hf 2 _ rfl; rw [goBool] at h'; exact h'
  have f3 : DataW.trod enc Try.prog W 0 (fun _ => true) true n 28 [c5, c6, c7, c8, c9] = xs[3]? := by have h' : DataW.trod enc Try.prog W 0 (fun _ => true) true n 28 (([c0, c1, c2, c3, c4, c5, c6, c7, c8, c9].drop 5).take (Try.prog.cellsOf 28)) = xs[3]? := hf 3 _ rfl; rw [goVal] at h'; exact h'
  match xs, hxl with
  | [y0, y1, y2, y3], _ =>
    obtain ⟨nm, e0, hy0, ht0⟩ := DataW.trod_string Try.underlying9 (f0.trans rfl); simp only [List.cons.injEq, and_true] at e0; subst e0
    obtain ⟨tn, tl, tm, et0, et1, et2, htn⟩ := goty (f1.trans rfl); subst et0 et1 et2
    obtain ⟨has, e2, hy2⟩ := DataW.trod_bool Try.underlying4 (f2.trans rfl); simp only [List.cons.injEq, and_true] at e2; subst e2
    obtain ⟨v, d0, d1, d2, d3, d4, ev, hva, s3⟩ := value_opened n _ _ (f3.trans rfl)
    have hv := vat_row hva
    rw [← ev] at hv
    refine ⟨⟨nm, tn, tl, tm, has, v⟩, ?_, ?_⟩
    · skip
      unfold encVar
      rw [TS]; refine ⟨_, _, rfl, by unfold TP; exact ⟨rfl, ht0⟩, ?_⟩
      rw [TS]; refine ⟨_, _, rfl, by unfold TP; exact ⟨rfl, htn⟩, ?_⟩
      rw [TS]; refine ⟨_, _, rfl, by unfold TP; exact ⟨rfl, trivial⟩, ?_⟩
      rw [TS]; refine ⟨_, _, rfl, by unfold TP; exact ⟨rfl, trivial⟩, ?_⟩
      rw [TS]; exact ⟨_, _, rfl, by unfold TP; exact ⟨rfl, trivial⟩, hv⟩
    · subst hy0
      simp only [szP, Rows.uptoBulk, Rows.uptoBulkAll, List.map_cons, List.map_nil]
      have e0 : nm.data.toList.length = nm.size := by simp
      omega
set_option maxRecDepth 100000 in
theorem openB_op {H : Type} {enc : TypeId × Value → H} {W : World} (fuel : Nat) (cs : List Value) (x : DataW H × List MemPlace) (h : DataW.trod enc Try.prog W 0 (fun _ => true) true fuel 45 cs = some x) : ∃ a : OpT, TS W (fun b => b < W.heap.size) (encOp a) cs ∧ szOp a ≤ Rows.uptoBulk x.1 := by
  obtain ⟨xs, n, rfl, rfl, hl, hxl, hf⟩ := DataW.trod_struct Try.underlying45 h
  rw [goOp] at hl
  obtain ⟨c0, c1, c2, c3, c4, rfl⟩ := goL5 hl
  have f0 : DataW.trod enc Try.prog W 0 (fun _ => true) true n 3 [c0] = xs[0]? := by have h' : DataW.trod enc Try.prog W 0 (fun _ => true) true n 3 (([c0, c1, c2, c3, c4].drop 0).take (Try.prog.cellsOf 3)) = xs[0]? := hf 0 _ rfl; rw [goInt] at h'; exact h'
  have f1 : DataW.trod enc Try.prog W 0 (fun _ => true) true n 9 [c1] = xs[1]? := by have h' : DataW.trod enc Try.prog W 0 (fun _ => true) true n 9 (([c0, c1, c2, c3, c4].drop 1).take (Try.prog.cellsOf 9)) = xs[1]? := hf 1 _ rfl; rw [goStr] at h'; exact h'
  have f2 : DataW.trod enc Try.prog W 0 (fun _ => true) true n 43 [c2] = xs[2]? := by have h' : DataW.trod enc Try.prog W 0 (fun _ => true) true n 43 (([c0, c1, c2, c3, c4].drop 2).take (Try.prog.cellsOf 43)) = xs[2]? := hf 2 _ rfl; rw [goSP] at h'; exact h'
  have f3 : DataW.trod enc Try.prog W 0 (fun _ => true) true n 39 [c3] = xs[3]? := by have h' : DataW.trod enc Try.prog W 0 (fun _ => true) true n 39 (([c0, c1, c2, c3, c4].drop 3).take (Try.prog.cellsOf 39)) = xs[3]? := hf 3 _ rfl; rw [goSD] at h'; exact h'
  have f4 : DataW.trod enc Try.prog W 0 (fun _ => true) true n 40 [c4] = xs[4]? := by have h' : DataW.trod enc Try.prog W 0 (fun _ => true) true n 40 (([c0, c1, c2, c3, c4].drop 4).take (Try.prog.cellsOf 40)) = xs[4]? := hf 4 _ rfl; rw [goSS] at h'; exact h'
  match xs, hxl with
  | [y0, y1, y2, y3, y4], _ =>
    obtain ⟨kd, e0, hy0, _⟩ := DataW.trod_int Try.underlying3 (f0.trans rfl); simp only [List.cons.injEq, and_true] at e0; subst e0
    obtain ⟨nm, e1, hy1, ht1⟩ := DataW.trod_string Try.underlying9 (f1.trans rfl); simp only [List.cons.injEq, and_true] at e1; subst e1
    obtain ⟨vs, A2, k2, e2, g2, r2, s2⟩ := slcB_opened (f := encVar) (sz := szP) Try.underlying43 goPar (fun x => by unfold encVar; simp only [TrS.len, encV_len]) (by decide) (fun n' _ => openB_var n') (f2.trans rfl); subst e2
    obtain ⟨ds, A3, k3, e3, g3, r3, s3⟩ := slcB_opened (f := encD) (sz := szDr) Try.underlying39 goDir (fun _ => rfl) (by decide) (fun n' _ => openB_dir n') (f3.trans rfl); subst e3
    obtain ⟨sl, A4, k4, e4, g4, r4, s4⟩ := slcB_opened (f := encS) (sz := szSel) Try.underlying40 goSel encS_len (by decide) (fun n' hn' => fun cs x h => openB_sel n' cs x h) (f4.trans rfl); subst e4
    have q4 := toSL_sz sl
    refine ⟨⟨kd, nm, vs, ds, toSL sl⟩, ?_, ?_⟩
    · unfold encOp
      simp only [TS, TP]
      exact ⟨_, _, rfl, ⟨rfl, trivial⟩, _, _, rfl, ⟨rfl, ht1⟩, _, _, rfl, ⟨A2, k2, by rw [rowOf_len], by rw [rowOf_len]; exact g2, r2⟩, _, _, rfl, ⟨A3, k3, by rw [rowOf_len], by rw [rowOf_len]; exact g3, r3⟩, _, _, rfl, ⟨A4, k4, by rw [encSL_len, toSL_len], by rw [encSL_len, toSL_len]; exact g4, by rw [toSL_enc]; exact r4⟩, rfl⟩
    · subst hy1
      simp only [szOp, Rows.uptoBulk, Rows.uptoBulkAll, List.map_cons, List.map_nil]
      have e1 : nm.data.toList.length = nm.size := by simp
      omega
set_option maxRecDepth 100000 in
theorem openB_frag {H : Type} {enc : TypeId × Value → H} {W : World} (fuel : Nat) (cs : List Value) (x : DataW H × List MemPlace) (h : DataW.trod enc Try.prog W 0 (fun _ => true) true fuel 74 cs = some x) : ∃ a : FragT, TS W (fun b => b < W.heap.size) (encF a) cs ∧ szFr a ≤ Rows.uptoBulk x.1 := by
  obtain ⟨xs, n, rfl, rfl, hl, hxl, hf⟩ := DataW.trod_struct Try.underlying74 h
  rw [goFr] at hl
  obtain ⟨c0, c1, c2, c3, rfl⟩ := goL4 hl
  have f0 : DataW.trod enc Try.prog W 0 (fun _ => true) true n 9 [c0] = xs[0]? := by have h' : DataW.trod enc Try.prog W 0 (fun _ => true) true n 9 (([c0, c1, c2, c3].drop 0).take (Try.prog.cellsOf 9)) = xs[0]? := hf 0 _ rfl; rw [goStr] at h'; exact h'
  have f1 : DataW.trod enc Try.prog W 0 (fun _ => true) true n 9 [c1] = xs[1]? := by have h' : DataW.trod enc Try.prog W 0 (fun _ => true) true n 9 (([c0, c1, c2, c3].drop 1).take (Try.prog.cellsOf 9)) = xs[1]? := hf 1 _ rfl; rw [goStr] at h'; exact h'
  have f2 : DataW.trod enc Try.prog W 0 (fun _ => true) true n 39 [c2] = xs[2]? := by have h' : DataW.trod enc Try.prog W 0 (fun _ => true) true n 39 (([c0, c1, c2, c3].drop 2).take (Try.prog.cellsOf 39)) = xs[2]? := hf 2 _ rfl; rw [goSD] at h'; exact h'
  have f3 : DataW.trod enc Try.prog W 0 (fun _ => true) true n 40 [c3] = xs[3]? := by have h' : DataW.trod enc Try.prog W 0 (fun _ => true) true n 40 (([c0, c1, c2, c3].drop 3).take (Try.prog.cellsOf 40)) = xs[3]? := hf 3 _ rfl; rw [goSS] at h'; exact h'
  match xs, hxl with
  | [y0, y1, y2, y3], _ =>
    obtain ⟨nm, e0, hy0, ht0⟩ := DataW.trod_string Try.underlying9 (f0.trans rfl); simp only [List.cons.injEq, and_true] at e0; subst e0
    obtain ⟨on, e1, hy1, ht1⟩ := DataW.trod_string Try.underlying9 (f1.trans rfl); simp only [List.cons.injEq, and_true] at e1; subst e1
    obtain ⟨ds, A2, k2, e2, g2, r2, s2⟩ := slcB_opened (f := encD) (sz := szDr) Try.underlying39 goDir (fun _ => rfl) (by decide) (fun n' _ => openB_dir n') (f2.trans rfl); subst e2
    obtain ⟨sl, A3, k3, e3, g3, r3, s3⟩ := slcB_opened (f := encS) (sz := szSel) Try.underlying40 goSel encS_len (by decide) (fun n' hn' => fun cs x h => openB_sel n' cs x h) (f3.trans rfl); subst e3
    have q3 := toSL_sz sl
    refine ⟨⟨nm, on, ds, toSL sl⟩, ?_, ?_⟩
    · unfold encF
      simp only [TS, TP]
      exact ⟨_, _, rfl, ⟨rfl, ht0⟩, _, _, rfl, ⟨rfl, ht1⟩, _, _, rfl, ⟨A2, k2, by rw [rowOf_len], by rw [rowOf_len]; exact g2, r2⟩, _, _, rfl, ⟨A3, k3, by rw [encSL_len, toSL_len], by rw [encSL_len, toSL_len]; exact g3, by rw [toSL_enc]; exact r3⟩, rfl⟩
    · subst hy0 hy1
      simp only [szFr, Rows.uptoBulk, Rows.uptoBulkAll, List.map_cons, List.map_nil]
      have e0 : nm.data.toList.length = nm.size := by simp
      have e1 : on.data.toList.length = on.size := by simp
      omega
set_option maxRecDepth 100000 in
theorem openB_docs {H : Type} {enc : TypeId × Value → H} {W : World} (fuel : Nat) (cs : List Value) (x : DataW H × List MemPlace) (h : DataW.trod enc Try.prog W 0 (fun _ => true) true fuel 49 cs = some x) : ∃ a : DocT, TS W (fun b => b < W.heap.size) (encDoc a) cs ∧ szDoc a ≤ Rows.uptoBulk x.1 := by
  obtain ⟨xs, n, rfl, rfl, hl, hxl, hf⟩ := DataW.trod_struct Try.underlying49 h
  rw [goDoc] at hl
  obtain ⟨c0, c1, rfl⟩ := goL2 hl
  have f0 : DataW.trod enc Try.prog W 0 (fun _ => true) true n 46 [c0] = xs[0]? := by have h' : DataW.trod enc Try.prog W 0 (fun _ => true) true n 46 (([c0, c1].drop 0).take (Try.prog.cellsOf 46)) = xs[0]? := hf 0 _ rfl; rw [goSO] at h'; exact h'
  have f1 : DataW.trod enc Try.prog W 0 (fun _ => true) true n 47 [c1] = xs[1]? := by have h' : DataW.trod enc Try.prog W 0 (fun _ => true) true n 47 (([c0, c1].drop 1).take (Try.prog.cellsOf 47)) = xs[1]? := hf 1 _ rfl; rw [goSF] at h'; exact h'
  match xs, hxl with
  | [y0, y1], _ =>
    obtain ⟨os, A0, k0, e0, g0, r0, s0⟩ := slcB_opened (f := encOp) (sz := szOp) Try.underlying46 goOp (fun _ => rfl) (by decide) (fun n' _ => openB_op n') (f0.trans rfl); subst e0
    obtain ⟨fs, A1, k1, e1, g1, r1, s1⟩ := slcB_opened (f := encF) (sz := szFr) Try.underlying47 goFr (fun _ => rfl) (by decide) (fun n' _ => openB_frag n') (f1.trans rfl); subst e1
    refine ⟨⟨os, fs⟩, ?_, ?_⟩
    · unfold encDoc
      simp only [TS, TP]
      exact ⟨_, _, rfl, ⟨A0, k0, by rw [rowOf_len], by rw [rowOf_len]; exact g0, r0⟩, _, _, rfl, ⟨A1, k1, by rw [rowOf_len], by rw [rowOf_len]; exact g1, r1⟩, rfl⟩
    · simp only [szDoc, Rows.uptoBulk, Rows.uptoBulkAll, List.map_cons, List.map_nil]
      omega
set_option maxRecDepth 100000 in
theorem openB_doc {H : Type} {enc : TypeId × Value → H} {W : World} {base : Nat} {v : Value} {d : DataW H} {ps : List MemPlace} (hval : Value.okWide Try.prog W .any base 49 v) (hd : DataW.Trod enc Try.prog W 0 (fun _ => true) true 49 v d ps) :
    ∃ D c0 c1, v = .agg #[c0, c1] ∧ TS W (fun b => b < W.heap.size) (encDoc D) [c0, c1] ∧ szDoc D ≤ Rows.uptoBulk d := by
  obtain ⟨cs, rfl, hsz⟩ := okWide_struct Try.underlying49 hval
  obtain ⟨fuel, hf⟩ := hd
  obtain ⟨D, h1, h3⟩ := openB_docs fuel _ _ hf
  obtain ⟨L⟩ := cs
  rw [goDoc] at hsz
  match L, hsz with
  | [a, b], _ => exact ⟨D, a, b, rfl, h1, h3⟩
set_option maxRecDepth 100000 in
theorem openB_sels {H : Type} {enc : TypeId × Value → H} {W : World} {base : Nat} {v : Value} {d : DataW H} {ps : List MemPlace} (hval : Value.okWide Try.prog W .any base 40 v) (hd : DataW.Trod enc Try.prog W 0 (fun _ => true) true 40 v d ps) :
    ∃ (l : SelL) (A : Option Addr) (c : Nat), v = .slice A l.len c ∧ l.len ≤ 9223372036854775807 ∧ RowT W (fun b => b < W.heap.size) (encSL l) A ∧ szSels l + 1 ≤ Rows.uptoBulk d := by
  obtain ⟨A, n, c, rfl⟩ := okWide_slice Try.underlying40 hval
  obtain ⟨fuel, hf⟩ := hd
  obtain ⟨l, A0, k0, e0, g0, r0, s0⟩ := slcB_opened (f := encS) (sz := szSel) Try.underlying40 goSel encS_len (by decide) (fun n' _ => fun cs x h => openB_sel n' cs x h) hf
  exact ⟨toSL l, A0, k0, by rw [toSL_len]; exact e0, by rw [toSL_len]; exact g0, by rw [toSL_enc]; exact r0, by rw [toSL_sz]; exact s0⟩
end Go.Proofs.Ytgihnhdknphhpaa
