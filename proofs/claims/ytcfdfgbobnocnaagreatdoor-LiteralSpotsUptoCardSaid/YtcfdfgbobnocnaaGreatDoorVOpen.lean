/- A value that comes in, opened with all that is known of it: it lies in memory that was there, its numbers are of 64 bits, its bulk bounds its size, the reach bounds its lists. -/
import Derived.Test.YtcfdfgbobnocnaaGreatDoorVRow
import Derived.OwnWalk
import Derived.Deep.AppendLies
import Derived.Test.YtcfdfgbobnocnaaGreatDoorVTok
import Derived.SizedLaws
namespace Go.Proofs.YtcfdfgbobnocnaaGreatDoor
open Go.RowKit

theorem info_val : (Tryz.prog.info? 30).map (fun i => (i.zero, i.size, i.bytes)) = some (some (.agg #[.int .i64 0, .int .i64 0, .string ⟨#[]⟩, .slice none 0 0, .slice none 0 0]), 5, 80) := by kernel_rfl
theorem info_mem : (Tryz.prog.info? 73).map (fun i => (i.zero, i.size, i.bytes)) = some (some (.agg #[.string ⟨#[]⟩, .int .i64 0, .int .i64 0, .string ⟨#[]⟩, .slice none 0 0, .slice none 0 0]), 6, 96) := by kernel_rfl
theorem sizeV_pos : ∀ v : VT, 1 ≤ sizeV v
  | .mk _ _ _ _ _ => by rw [sizeV]; omega
theorem lenL_le : ∀ l : VL, l.len ≤ sizeL l
  | .nil => Nat.le_refl _
  | .cons v t => by rw [VL.len, sizeL]; have := lenL_le t; have := sizeV_pos v; omega
theorem lenM_le : ∀ l : VM, l.len ≤ sizeM l
  | .nil => Nat.le_refl _
  | .cons nm v t => by rw [VM.len, sizeM]; have := lenM_le t; have := sizeV_pos v; omega
mutual
/-- No list in it takes more than 2^47 bytes. -/
def SlimV : VT → Prop
  | .mk _ _ _ l m => l.len * 80 ≤ 140737488355328 ∧ m.len * 96 ≤ 140737488355328 ∧ SlimL l ∧ SlimM m
def SlimL : VL → Prop
  | .nil => True
  | .cons v t => SlimV v ∧ SlimL t
def SlimM : VM → Prop
  | .nil => True
  | .cons _ v t => SlimV v ∧ SlimM t
end
theorem SlimL.get : ∀ {l : VL} {j : Nat} {v : VT}, SlimL l → l.get j = some v → SlimV v
  | .nil, _, _, _, h => by simp [VL.get] at h
  | .cons u t, 0, v, hs, h => by
    have : u = v := by simpa [VL.get] using h
    subst this
    unfold SlimL at hs
    exact hs.1
  | .cons u t, j + 1, v, hs, h => by
    unfold SlimL at hs
    exact SlimL.get (l := t) (j := j) hs.2 h
theorem SlimM.get : ∀ {l : VM} {j : Nat} {nm : ByteArray} {v : VT}, SlimM l → l.get j = some (nm, v) → SlimV v
  | .nil, _, _, _, _, h => by simp [VM.get] at h
  | .cons x u t, 0, nm, v, hs, h => by
    have : x = nm ∧ u = v := by simpa [VM.get] using h
    obtain ⟨_, rfl⟩ := this
    unfold SlimM at hs
    exact hs.1
  | .cons x u t, j + 1, nm, v, hs, h => by
    unfold SlimM at hs
    exact SlimM.get (l := t) (j := j) hs.2 h
mutual
theorem slim_of : ∀ v : VT, sizeV v ≤ 1000000000 → SlimV v
  | .mk k n s l m, h => by
    rw [sizeV] at h
    have h1 := lenL_le l
    have h2 := lenM_le m
    unfold SlimV
    exact ⟨by omega, by omega, slimL_of l (by omega), slimM_of m (by omega)⟩
theorem slimL_of : ∀ l : VL, sizeL l ≤ 1000000000 → SlimL l
  | .nil, _ => by unfold SlimL; trivial
  | .cons v t, h => by
    rw [sizeL] at h
    unfold SlimL
    exact ⟨slim_of v (by omega), slimL_of t (by omega)⟩
theorem slimM_of : ∀ l : VM, sizeM l ≤ 1000000000 → SlimM l
  | .nil, _ => by unfold SlimM; trivial
  | .cons nm v t, h => by
    rw [sizeM] at h
    unfold SlimM
    exact ⟨slim_of v (by omega), slimM_of t (by omega)⟩
end
/-- The blocks that are new since w. -/
def Fresh (w w' : World) (b : Nat) : Prop := w.heap.size ≤ b ∧ b < w'.heap.size
/-- The row that is being built. -/
def RT (base : Nat) (W : World) (V : Value) (q : Nat) (l : VL) : Prop := ∃ xs P, W.ownsRow base 30 5 V q xs ∧ ValsL W P l xs ∧ ∀ b, P b → base ≤ b ∧ b < W.heap.size ∧ V.ownBlock ≠ some b
def RM (base : Nat) (W : World) (V : Value) (q : Nat) (l : VM) : Prop := ∃ xs P, W.ownsRow base 73 6 V q xs ∧ ValsM W P l xs ∧ ∀ b, P b → base ≤ b ∧ b < W.heap.size ∧ V.ownBlock ≠ some b
theorem RT.start (base : Nat) (W : World) : RT base W (.slice none 0 0) 0 .nil := ⟨[], fun _ => False, World.ownsRow_nil _ _ _ _, rfl, fun _ h => h.elim⟩
theorem RM.start (base : Nat) (W : World) : RM base W (.slice none 0 0) 0 .nil := ⟨[], fun _ => False, World.ownsRow_nil _ _ _ _, rfl, fun _ h => h.elim⟩
theorem own_low {B : Nat} {e : TypeId} {k : Nat} {v : Value} {n : Nat} {xs : List Value} {w w' : World} (h : w.ownsRow B e k v n xs) (hb : Below w.heap.size w w') : w'.ownsRow B e k v n xs :=
  h.kept (row := none) ⟨hb.os, hb.tape, hb.output, hb.size, fun j hj _ => hb.block j hj⟩ (Classical.em _)
/-- What the step of an append keeps, block by block. -/
theorem step_blocks {wr w2 w4 : World} {V : Value} {g : Nat} {o : Obj} {P : Nat → Prop} {base : Nat} (hbase : base ≤ wr.heap.size) (hV : ∀ k, V.ownBlock = some k → k < wr.heap.size) (hP : ∀ b, P b → base ≤ b ∧ b < wr.heap.size ∧ V.ownBlock ≠ some b)
    (hb : Below wr.heap.size wr w2) (hg : (w2.alloc o).grownBy w4 V.ownBlock) (hat : V.ownBlock = some g ∨ g = (w2.alloc o).heap.size) :
    (∀ b, P b → (P b ∨ Fresh wr w2 b) ∧ w4.heap[b]? = wr.heap[b]?) ∧ (∀ b, Fresh wr w2 b → (P b ∨ Fresh wr w2 b) ∧ w4.heap[b]? = w2.heap[b]?) ∧ (∀ b, P b ∨ Fresh wr w2 b → base ≤ b ∧ b < w4.heap.size ∧ some g ≠ some b) := by
  have hs2 := hb.size
  have hs4 := hg.size
  have ha : (w2.alloc o).heap.size = w2.heap.size + 1 := by simp
  have hn : ∀ b, Fresh wr w2 b → V.ownBlock ≠ some b := fun b h e => by have := hV b e; have := h.1; omega
  refine ⟨fun b h => ⟨.inl h, ?_⟩, fun b h => ⟨.inr h, ?_⟩, fun b h => ?_⟩
  · obtain ⟨_, h1, h2⟩ := hP b h
    rw [hg.block b (by omega) (fun e => h2 e.symm), Below.heap_alloc _ _ _ (by omega), hb.block b h1]
  · have h1 := h.2
    rw [hg.block b (by omega) (fun e => hn b h e.symm), Below.heap_alloc _ _ _ h1]
  · have hlt : base ≤ b ∧ b < w2.heap.size ∧ V.ownBlock ≠ some b := by
      rcases h with h | h
      · obtain ⟨h0, h1, h2⟩ := hP b h
        exact ⟨h0, by omega, h2⟩
      · exact ⟨Nat.le_trans hbase h.1, h.2, hn b h⟩
    refine ⟨hlt.1, by omega, fun e => ?_⟩
    rcases hat with hat | hat
    · exact hlt.2.2 (hat.trans e)
    · have : g = b := by injection e
      omega
theorem RT.next {base q cap g : Nat} {wr w2 w4 : World} {V : Value} {l : VL} {v : VT} {o : Obj} {xs : List Value} {P : Nat → Prop} {d0 d1 d2 d3 d4 : Value} (hbase : base ≤ wr.heap.size) (hown : wr.ownsRow base 30 5 V q xs) (hv : ValsL wr P l xs) (hP : ∀ b, P b → base ≤ b ∧ b < wr.heap.size ∧ V.ownBlock ≠ some b)
    (hb : Below wr.heap.size wr w2) (hd : VP w2 (Fresh wr w2) v d0 d1 d2 d3 d4) (hown4 : w4.ownsRow base 30 5 (.slice (some ⟨g, 0, none⟩) (q + 1) cap) (q + 1) (xs ++ [d0, d1, d2, d3, d4])) (hg : (w2.alloc o).grownBy w4 V.ownBlock) (hat : V.ownBlock = some g ∨ g = (w2.alloc o).heap.size) :
    RT base w4 (.slice (some ⟨g, 0, none⟩) (q + 1) cap) (q + 1) (l.snoc v) := by
  obtain ⟨h1, h2, h3⟩ := step_blocks hbase (fun k hk => (hown.lt k hk).2) hP hb hg hat
  exact ⟨_, fun b => P b ∨ Fresh wr w2 b, hown4, ValsL.snoc (VP.keep h2 _ _ _ _ _ _ hd) (hv.keep h1), h3⟩
theorem RM.next {base q cap g : Nat} {wr w2 w4 : World} {V : Value} {l : VM} {nm : ByteArray} {v : VT} {o : Obj} {xs : List Value} {P : Nat → Prop} {d0 d1 d2 d3 d4 : Value} (hbase : base ≤ wr.heap.size) (hown : wr.ownsRow base 73 6 V q xs) (hv : ValsM wr P l xs) (hP : ∀ b, P b → base ≤ b ∧ b < wr.heap.size ∧ V.ownBlock ≠ some b) (hnm : nm.size ≤ 9223372036854775807)
    (hb : Below wr.heap.size wr w2) (hd : VP w2 (Fresh wr w2) v d0 d1 d2 d3 d4) (hown4 : w4.ownsRow base 73 6 (.slice (some ⟨g, 0, none⟩) (q + 1) cap) (q + 1) (xs ++ [.string nm, d0, d1, d2, d3, d4])) (hg : (w2.alloc o).grownBy w4 V.ownBlock) (hat : V.ownBlock = some g ∨ g = (w2.alloc o).heap.size) :
    RM base w4 (.slice (some ⟨g, 0, none⟩) (q + 1) cap) (q + 1) (l.snoc nm v) := by
  obtain ⟨h1, h2, h3⟩ := step_blocks hbase (fun k hk => (hown.lt k hk).2) hP hb hg hat
  exact ⟨_, fun b => P b ∨ Fresh wr w2 b, hown4, ValsM.snoc hnm (VP.keep h2 _ _ _ _ _ _ hd) (hv.keep h1), h3⟩
theorem shape_own {w : World} {base sz : Nat} {e : TypeId} {v : Value} {n : Nat} {xs : List Value} (h : w.ownsRow base e sz v n xs) : ∃ A cap, v = .slice A n cap := by
  rcases h.2 with ⟨hv, hn⟩ | ⟨g, cap, cur, hv, _⟩
  · exact ⟨none, 0, by rw [hv, hn]⟩
  · exact ⟨_, _, hv⟩
theorem five_new (w : World) (a0 a1 a2 a3 a4 : Value) (t : TypeId) {n : Nat} (hn : n = w.heap.size) : ∀ (j : Nat) u, [a0, a1, a2, a3, a4][j]? = some u → (w.alloc (.cells #[a0, a1, a2, a3, a4] t)).cell? ((⟨n, 0, none⟩ : Addr).add j) = some u := by
  subst hn
  intro j u hu
  rw [add_at, Nat.zero_add]
  match j, hu with
  | 0, hu => cases hu; rw [World.cell?_alloc_at _ _ _ _ rfl]; rfl
  | 1, hu => cases hu; rw [World.cell?_alloc_at _ _ _ _ rfl]; rfl
  | 2, hu => cases hu; rw [World.cell?_alloc_at _ _ _ _ rfl]; rfl
  | 3, hu => cases hu; rw [World.cell?_alloc_at _ _ _ _ rfl]; rfl
  | 4, hu => cases hu; rw [World.cell?_alloc_at _ _ _ _ rfl]; rfl
theorem six_new (w : World) (a a0 a1 a2 a3 a4 : Value) (t : TypeId) {n : Nat} (hn : n = w.heap.size) : ∀ (j : Nat) u, [a, a0, a1, a2, a3, a4][j]? = some u → (w.alloc (.cells #[a, a0, a1, a2, a3, a4] t)).cell? ((⟨n, 0, none⟩ : Addr).add j) = some u := by
  subst hn
  intro j u hu
  rw [add_at, Nat.zero_add]
  match j, hu with
  | 0, hu => cases hu; rw [World.cell?_alloc_at _ _ _ _ rfl]; rfl
  | 1, hu => cases hu; rw [World.cell?_alloc_at _ _ _ _ rfl]; rfl
  | 2, hu => cases hu; rw [World.cell?_alloc_at _ _ _ _ rfl]; rfl
  | 3, hu => cases hu; rw [World.cell?_alloc_at _ _ _ _ rfl]; rfl
  | 4, hu => cases hu; rw [World.cell?_alloc_at _ _ _ _ rfl]; rfl
  | 5, hu => cases hu; rw [World.cell?_alloc_at _ _ _ _ rfl]; rfl
end Go.Proofs.YtcfdfgbobnocnaaGreatDoor
namespace Go.Proofs.YtcfdfgbobnocnaaGreatDoor
open Go.ChangeShapes Go.WideShapes Go.ChangeAt Go.RowKit

theorem weights_all5 {H : Type} {P : Program} {e : TypeId} {d : DataW H} {m : Nat} : ∀ {l : List (DataW H)}, d ∈ l → m ∈ d.weights P e → m ∈ DataW.weightsAll P e l
  | [], h, _ => by simp at h
  | x :: r, h, hm => by
    rw [DataW.weightsAll]
    rcases List.mem_cons.1 h with rfl | h
    · exact List.mem_append_left _ hm
    · exact List.mem_append_right _ (weights_all5 h hm)
def OpenedV {H : Type} (W : World) (cs : List Value) (d : DataW H) : Prop := ∃ v c0 c1 c2 c3 c4, cs = [c0, c1, c2, c3, c4] ∧ VAt W W.heap.size v c0 c1 c2 c3 c4 ∧ RngV v ∧ sizeV v ≤ Rows.uptoBulk d ∧ ((∀ m ∈ d.weights Tryz.prog 30, m ≤ reachBytes) → SlimV v)
def OpenedM {H : Type} (W : World) (cs : List Value) (d : DataW H) : Prop := ∃ nm v c0 c1 c2 c3 c4, cs = [.string nm, c0, c1, c2, c3, c4] ∧ nm.size ≤ 9223372036854775807 ∧ VAt W W.heap.size v c0 c1 c2 c3 c4 ∧ RngV v ∧ nm.size + sizeV v ≤ Rows.uptoBulk d ∧ ((∀ m ∈ d.weights Tryz.prog 73, m ≤ reachBytes) → SlimV v)
theorem cells5 {W : World} {b o i : Nat} {c0 c1 c2 c3 c4 : Value} {n : Nat} (h : W.cells? 0 ⟨b, o + i, none⟩ n = some [c0, c1, c2, c3, c4]) : b < W.heap.size ∧ Five W b (o + i) c0 c1 c2 c3 c4 := by
  obtain ⟨_, hl, hat⟩ := World.cells?_some h
  simp only [List.length_cons, List.length_nil] at hl
  simp only [add_at] at hat
  have g0 := hat 0 (by omega)
  have g1 := hat 1 (by omega)
  have g2 := hat 2 (by omega)
  have g3 := hat 3 (by omega)
  have g4 := hat 4 (by omega)
  exact ⟨World.block_lt_of_cell? W _ (g0.trans rfl), g0.trans rfl, g1.trans rfl, g2.trans rfl, g3.trans rfl, g4.trans rfl⟩
theorem cells6 {W : World} {b o i : Nat} {c c0 c1 c2 c3 c4 : Value} {n : Nat} (h : W.cells? 0 ⟨b, o + i, none⟩ n = some [c, c0, c1, c2, c3, c4]) : b < W.heap.size ∧ W.cell? ⟨b, o + i, none⟩ = some c ∧ Five W b (o + i + 1) c0 c1 c2 c3 c4 := by
  obtain ⟨_, hl, hat⟩ := World.cells?_some h
  simp only [List.length_cons, List.length_nil] at hl
  simp only [add_at] at hat
  have g := hat 0 (by omega)
  have g0 := hat 1 (by omega)
  have g1 := hat 2 (by omega)
  have g2 := hat 3 (by omega)
  have g3 := hat 4 (by omega)
  have g4 := hat 5 (by omega)
  exact ⟨World.block_lt_of_cell? W _ (g.trans rfl), g.trans rfl, g0.trans rfl, g1.trans rfl, g2.trans rfl, g3.trans rfl, g4.trans rfl⟩
/-- A row of values out of its elements. -/
theorem list_opened {H : Type} {W : World} {b o : Nat} {T : List Value → Option (DataW H × List MemPlace)} (IH : ∀ cs x, T cs = some x → OpenedV W cs x.1) : ∀ (elems : List (DataW H × List MemPlace)) (j : Nat),
    (∀ i, i < elems.length → (W.cells? 0 ⟨b, o + (j + i) * 5, none⟩ 5).bind T = elems[i]?) →
    ∃ l : VL, l.len = elems.length ∧ LAt W W.heap.size l (some ⟨b, o, none⟩) j ∧ RngL l ∧ sizeL l ≤ Rows.uptoBulkAll (elems.map (·.1)) ∧ ((∀ m ∈ DataW.weightsAll Tryz.prog 30 (elems.map (·.1)), m ≤ reachBytes) → SlimL l)
  | [], j, _ => ⟨.nil, rfl, by unfold LAt; trivial, by unfold RngL; trivial, by rw [sizeL]; exact Nat.zero_le _, fun _ => by unfold SlimL; trivial⟩
  | x :: elems, j, h => by
    have h0 := h 0 (by simp)
    rw [Nat.add_zero] at h0
    obtain ⟨cs, hc, ht⟩ := Option.bind_eq_some_iff.1 (h0.trans rfl)
    obtain ⟨v, c0, c1, c2, c3, c4, rfl, hv, hr, hs, hw⟩ := IH cs x ht
    obtain ⟨hlt, hF⟩ := cells5 hc
    obtain ⟨l, h1, h2, h3, h4, h5⟩ := list_opened IH elems (j + 1) (fun i hi => by
      have := h (i + 1) (by simp; omega)
      rw [show j + (i + 1) = j + 1 + i by omega] at this
      simpa using this)
    refine ⟨.cons v l, by rw [VL.len, h1, List.length_cons], by unfold LAt; exact ⟨⟨b, o, c0, c1, c2, c3, c4, rfl, hlt, hF, hv⟩, h2⟩, by unfold RngL; exact ⟨hr, h3⟩, ?_, fun hm => ?_⟩
    · rw [sizeL, List.map_cons, Rows.uptoBulkAll]; omega
    · rw [List.map_cons, DataW.weightsAll] at hm
      unfold SlimL
      exact ⟨hw (fun m h => hm m (List.mem_append_left _ h)), h5 (fun m h => hm m (List.mem_append_right _ h))⟩
theorem mems_opened {H : Type} {W : World} {b o : Nat} {T : List Value → Option (DataW H × List MemPlace)} (IH : ∀ cs x, T cs = some x → OpenedM W cs x.1) : ∀ (elems : List (DataW H × List MemPlace)) (j : Nat),
    (∀ i, i < elems.length → (W.cells? 0 ⟨b, o + (j + i) * 6, none⟩ 6).bind T = elems[i]?) →
    ∃ l : VM, l.len = elems.length ∧ MAt W W.heap.size l (some ⟨b, o, none⟩) j ∧ RngM l ∧ sizeM l ≤ Rows.uptoBulkAll (elems.map (·.1)) ∧ ((∀ m ∈ DataW.weightsAll Tryz.prog 73 (elems.map (·.1)), m ≤ reachBytes) → SlimM l)
  | [], j, _ => ⟨.nil, rfl, by unfold MAt; trivial, by unfold RngM; trivial, by rw [sizeM]; exact Nat.zero_le _, fun _ => by unfold SlimM; trivial⟩
  | x :: elems, j, h => by
    have h0 := h 0 (by simp)
    rw [Nat.add_zero] at h0
    obtain ⟨cs, hc, ht⟩ := Option.bind_eq_some_iff.1 (h0.trans rfl)
    obtain ⟨nm, v, c0, c1, c2, c3, c4, rfl, hn, hv, hr, hs, hw⟩ := IH cs x ht
    obtain ⟨hlt, hN, hF⟩ := cells6 hc
    obtain ⟨l, h1, h2, h3, h4, h5⟩ := mems_opened IH elems (j + 1) (fun i hi => by
      have := h (i + 1) (by simp; omega)
      rw [show j + (i + 1) = j + 1 + i by omega] at this
      simpa using this)
    refine ⟨.cons nm v l, by rw [VM.len, h1, List.length_cons], by unfold MAt; exact ⟨⟨b, o, c0, c1, c2, c3, c4, rfl, hlt, hN, hn, hF, hv⟩, h2⟩, by unfold RngM; exact ⟨hr, h3⟩, ?_, fun hm => ?_⟩
    · rw [sizeM, List.map_cons, Rows.uptoBulkAll]; omega
    · rw [List.map_cons, DataW.weightsAll] at hm
      unfold SlimM
      exact ⟨hw (fun m h => hm m (List.mem_append_left _ h)), h5 (fun m h => hm m (List.mem_append_right _ h))⟩
theorem bytesV : Tryz.prog.bytesOf 30 = 80 := by kernel_rfl
theorem bytesM : Tryz.prog.bytesOf 73 = 96 := by kernel_rfl
theorem spot_none {W : World} {a : Addr} {n : Nat} {cs : List Value} (hn : 0 < n) (h : W.cells? 0 a n = some cs) : a.spot = none := by
  obtain ⟨_, hl, hat⟩ := World.cells?_some h
  have h2 := hat 0 (by omega)
  rw [List.getElem?_eq_getElem (by omega)] at h2
  have := World.cell?_spot h2
  obtain ⟨b, o, spot⟩ := a
  simpa [Addr.add] using this
/-- A slice of values that came in. -/
theorem slice_opened {H : Type} {enc : TypeId × Value → H} {W : World} {fuel : Nat} {cv : Value} {x : DataW H × List MemPlace} (IH : ∀ n, n < fuel → ∀ cs x, DataW.trod enc Tryz.prog W 0 (fun _ => true) true n 30 cs = some x → OpenedV W cs x.1)
    (h : DataW.trod enc Tryz.prog W 0 (fun _ => true) true fuel 27 [cv] = some x) : ∃ (l : VL) (A : Option Addr) (c : Nat), cv = .slice A l.len c ∧ l.len ≤ 9223372036854775807 ∧ LAt W W.heap.size l A 0 ∧ RngL l ∧ sizeL l + 1 ≤ Rows.uptoBulk x.1 ∧ ((∀ m ∈ x.1.weights Tryz.prog 27, m ≤ reachBytes) → l.len * 80 ≤ 140737488355328 ∧ SlimL l) := by
  rcases DataW.trod_slice Tryz.underlying27 h with ⟨hc, rfl⟩ | ⟨a, len, cap, elems, rest, n', hn', hc, rfl, _, hlc, hcm, hel, hat, _⟩
  · simp only [List.cons.injEq, and_true] at hc
    exact ⟨.nil, none, 0, hc, Nat.zero_le _, by unfold LAt; trivial, by unfold RngL; trivial, by simp [sizeL, Rows.uptoBulk], fun _ => ⟨by simp [VL.len], by unfold SlimL; trivial⟩⟩
  · simp only [List.cons.injEq, and_true] at hc
    subst hel
    rw [cellsV] at hat
    obtain ⟨b, o, spot⟩ := a
    have hsp : 0 < elems.length → spot = none := fun hp => by
      have h1 := hat 0 hp
      rw [List.getElem?_eq_getElem hp] at h1
      obtain ⟨cs', hc', _⟩ := Option.bind_eq_some_iff.1 h1
      exact spot_none (by omega) hc'
    rcases Nat.eq_zero_or_pos elems.length with hz | hz
    · have he : elems = [] := List.eq_nil_of_length_eq_zero hz
      subst he
      exact ⟨.nil, _, cap, hc, Nat.zero_le _, by unfold LAt; trivial, by unfold RngL; trivial, by simp only [sizeL, Rows.uptoBulk]; omega, fun _ => ⟨by simp [VL.len], by unfold SlimL; trivial⟩⟩
    · obtain rfl := hsp hz
      obtain ⟨l, h1, h2, h3, h4, h5⟩ := list_opened (T := DataW.trod enc Tryz.prog W 0 (fun _ => true) true n' 30) (IH n' (by omega)) elems 0 (fun i hi => by
        have := hat i hi
        rwa [add_at, show i * 5 = (0 + i) * 5 by omega] at this)
      refine ⟨l, _, cap, by rw [hc, h1], by rw [h1]; exact Nat.le_trans hlc hcm, h2, h3, ?_, fun hm => ?_⟩
      · simp only [Rows.uptoBulk]; omega
      · simp only [DataW.weights, Tryz.underlying27] at hm
        refine ⟨?_, h5 (fun m h => hm m (List.mem_cons.2 (.inr (List.mem_append.2 (.inl h)))))⟩
        have := hm _ (List.mem_cons.2 (.inl rfl))
        simp only [List.length_map, bytesV, reachBytes] at this
        rw [h1]; omega
theorem mslice_opened {H : Type} {enc : TypeId × Value → H} {W : World} {fuel : Nat} {cv : Value} {x : DataW H × List MemPlace} (IH : ∀ n, n < fuel → ∀ cs x, DataW.trod enc Tryz.prog W 0 (fun _ => true) true n 30 cs = some x → OpenedV W cs x.1)
    (h : DataW.trod enc Tryz.prog W 0 (fun _ => true) true fuel 28 [cv] = some x) : ∃ (l : VM) (A : Option Addr) (c : Nat), cv = .slice A l.len c ∧ l.len ≤ 9223372036854775807 ∧ MAt W W.heap.size l A 0 ∧ RngM l ∧ sizeM l + 1 ≤ Rows.uptoBulk x.1 ∧ ((∀ m ∈ x.1.weights Tryz.prog 28, m ≤ reachBytes) → l.len * 96 ≤ 140737488355328 ∧ SlimM l) := by
  rcases DataW.trod_slice Tryz.underlying28 h with ⟨hc, rfl⟩ | ⟨a, len, cap, elems, rest, n', hn', hc, rfl, _, hlc, hcm, hel, hat, _⟩
  · simp only [List.cons.injEq, and_true] at hc
    exact ⟨.nil, none, 0, hc, Nat.zero_le _, by unfold MAt; trivial, by unfold RngM; trivial, by simp [sizeM, Rows.uptoBulk], fun _ => ⟨by simp [VM.len], by unfold SlimM; trivial⟩⟩
  · simp only [List.cons.injEq, and_true] at hc
    subst hel
    rw [cellsM] at hat
    obtain ⟨b, o, spot⟩ := a
    have hsp : 0 < elems.length → spot = none := fun hp => by
      have h1 := hat 0 hp
      rw [List.getElem?_eq_getElem hp] at h1
      obtain ⟨cs', hc', _⟩ := Option.bind_eq_some_iff.1 h1
      exact spot_none (by omega) hc'
    have IHM : ∀ cs x, DataW.trod enc Tryz.prog W 0 (fun _ => true) true n' 73 cs = some x → OpenedM W cs x.1 := by
      intro cs x ht
      obtain ⟨ys, n2, hn2, rfl, hl2, hyl, hf2⟩ := DataW.trod_struct Tryz.underlying73 ht
      rw [cellsM] at hl2
      obtain ⟨d, d0, d1, d2, d3, d4, rfl⟩ := six_list hl2
      have p0 : DataW.trod enc Tryz.prog W 0 (fun _ => true) true n2 9 [d] = ys[0]? := by have h' : DataW.trod enc Tryz.prog W 0 (fun _ => true) true n2 9 (([d, d0, d1, d2, d3, d4].drop 0).take (Tryz.prog.cellsOf 9)) = ys[0]? := hf2 0 _ rfl; rw [cellsS] at h'; exact h'
      have p1 : DataW.trod enc Tryz.prog W 0 (fun _ => true) true n2 30 [d0, d1, d2, d3, d4] = ys[1]? := by have h' : DataW.trod enc Tryz.prog W 0 (fun _ => true) true n2 30 (([d, d0, d1, d2, d3, d4].drop 1).take (Tryz.prog.cellsOf 30)) = ys[1]? := hf2 1 _ rfl; rw [cellsV] at h'; exact h'
      match ys, hyl with
      | [z0, z1], _ =>
        obtain ⟨t, e2, hz0, htz⟩ := DataW.trod_string Tryz.underlying9 (p0.trans rfl)
        obtain ⟨v, c0, c1, c2, c3, c4, hcs, hv, hr, hs, hw⟩ := IH n2 (by omega) _ z1 (p1.trans rfl)
        simp only [List.cons.injEq, and_true] at e2 hcs
        obtain ⟨rfl, rfl, rfl, rfl, rfl⟩ := hcs
        subst e2
        refine ⟨t, v, _, _, _, _, _, rfl, htz, hv, hr, ?_, fun hm => hw (fun m h => hm m ?_)⟩
        · simp only [List.map_cons, List.map_nil, Rows.uptoBulk, Rows.uptoBulkAll, hz0]
          have : t.data.toList.length = t.size := Array.length_toList
          omega
        · simp only [List.map_cons, List.map_nil, DataW.weights, Tryz.underlying73, DataW.weightsEach]
          exact List.mem_append_right _ (List.mem_append_left _ h)
    rcases Nat.eq_zero_or_pos elems.length with hz | hz
    · have he : elems = [] := List.eq_nil_of_length_eq_zero hz
      subst he
      exact ⟨.nil, _, cap, hc, Nat.zero_le _, by unfold MAt; trivial, by unfold RngM; trivial, by simp only [sizeM, Rows.uptoBulk]; omega, fun _ => ⟨by simp [VM.len], by unfold SlimM; trivial⟩⟩
    · obtain rfl := hsp hz
      obtain ⟨l, h1, h2, h3, h4, h5⟩ := mems_opened (T := DataW.trod enc Tryz.prog W 0 (fun _ => true) true n' 73) IHM elems 0 (fun i hi => by
        have := hat i hi
        rwa [add_at, show i * 6 = (0 + i) * 6 by omega] at this)
      refine ⟨l, _, cap, by rw [hc, h1], by rw [h1]; exact Nat.le_trans hlc hcm, h2, h3, ?_, fun hm => ?_⟩
      · simp only [Rows.uptoBulk]; omega
      · simp only [DataW.weights, Tryz.underlying28] at hm
        refine ⟨?_, h5 (fun m h => hm m (List.mem_cons.2 (.inr (List.mem_append.2 (.inl h)))))⟩
        have := hm _ (List.mem_cons.2 (.inl rfl))
        simp only [List.length_map, bytesM, reachBytes] at this
        rw [h1]; omega
set_option maxRecDepth 100000 in
theorem value_opened {H : Type} {enc : TypeId × Value → H} {W : World} : ∀ (fuel : Nat) (cs : List Value) (x : DataW H × List MemPlace), DataW.trod enc Tryz.prog W 0 (fun _ => true) true fuel 30 cs = some x → OpenedV W cs x.1 := by
  intro fuel
  induction fuel using Nat.strongRecOn with
  | ind fuel ih =>
    intro cs x h
    obtain ⟨xs, n, rfl, rfl, hl, hxl, hf⟩ := DataW.trod_struct Tryz.underlying30 h
    rw [cellsV] at hl
    obtain ⟨c0, c1, c2, c3, c4, rfl⟩ := five_list hl
    have f0 : DataW.trod enc Tryz.prog W 0 (fun _ => true) true n 3 [c0] = xs[0]? := by have h' : DataW.trod enc Tryz.prog W 0 (fun _ => true) true n 3 (([c0, c1, c2, c3, c4].drop 0).take (Tryz.prog.cellsOf 3)) = xs[0]? := hf 0 _ rfl; rw [cellsI] at h'; exact h'
    have f1 : DataW.trod enc Tryz.prog W 0 (fun _ => true) true n 2 [c1] = xs[1]? := by have h' : DataW.trod enc Tryz.prog W 0 (fun _ => true) true n 2 (([c0, c1, c2, c3, c4].drop 1).take (Tryz.prog.cellsOf 2)) = xs[1]? := hf 1 _ rfl; rw [cellsI64] at h'; exact h'
    have f2 : DataW.trod enc Tryz.prog W 0 (fun _ => true) true n 9 [c2] = xs[2]? := by have h' : DataW.trod enc Tryz.prog W 0 (fun _ => true) true n 9 (([c0, c1, c2, c3, c4].drop 2).take (Tryz.prog.cellsOf 9)) = xs[2]? := hf 2 _ rfl; rw [cellsS] at h'; exact h'
    have f3 : DataW.trod enc Tryz.prog W 0 (fun _ => true) true n 27 [c3] = xs[3]? := by have h' : DataW.trod enc Tryz.prog W 0 (fun _ => true) true n 27 (([c0, c1, c2, c3, c4].drop 3).take (Tryz.prog.cellsOf 27)) = xs[3]? := hf 3 _ rfl; rw [cellsLV] at h'; exact h'
    have f4 : DataW.trod enc Tryz.prog W 0 (fun _ => true) true n 28 [c4] = xs[4]? := by have h' : DataW.trod enc Tryz.prog W 0 (fun _ => true) true n 28 (([c0, c1, c2, c3, c4].drop 4).take (Tryz.prog.cellsOf 28)) = xs[4]? := hf 4 _ rfl; rw [cellsLM] at h'; exact h'
    match xs, hxl with
    | [y0, y1, y2, y3, y4], _ =>
      obtain ⟨k, e0, hy0, _⟩ := DataW.trod_int Tryz.underlying3 (f0.trans rfl)
      obtain ⟨m, e1, hy1, wf⟩ := DataW.trod_int Tryz.underlying2 (f1.trans rfl)
      obtain ⟨t, e2, hy2, ht⟩ := DataW.trod_string Tryz.underlying9 (f2.trans rfl)
      obtain ⟨l, A, c, h3, g3, h4, r3, s3, w3⟩ := slice_opened (fun n' hn' => ih n' (by omega)) (f3.trans rfl)
      obtain ⟨l', A', c', h5, g5, h6, r5, s5, w5⟩ := mslice_opened (fun n' hn' => ih n' (by omega)) (f4.trans rfl)
      simp only [List.cons.injEq, and_true] at e0 e1 e2
      subst e0 e1 e2 h3 h5
      refine ⟨.mk k m t l l', _, _, _, _, _, rfl, by unfold VAt; exact ⟨rfl, rfl, rfl, ht, ⟨A, c, rfl, g3, h4⟩, A', c', rfl, g5, h6⟩, ?_, ?_, fun hm => ?_⟩
      · unfold RngV
        refine ⟨?_, r3, r5⟩
        have hw := wf
        simp only [Lit.wf] at hw
        have hw2 : (-9223372036854775808 ≤ m) ∧ m ≤ 9223372036854775807 := by
          simpa [Bool.and_eq_true, IntKind.min, IntKind.max, IntKind.signed, IntKind.bits] using hw
        exact hw2
      · simp only [List.map_cons, List.map_nil, Rows.uptoBulk, Rows.uptoBulkAll, hy0, hy1, hy2]
        have : t.data.toList.length = t.size := Array.length_toList
        rw [sizeV]
        omega
      · simp only [List.map_cons, List.map_nil, DataW.weights, Tryz.underlying30, DataW.weightsEach, hy0, hy1, hy2] at hm
        unfold SlimV
        have a3 := w3 (fun m h => hm m (by simp only [List.mem_append]; simp [h]))
        have a5 := w5 (fun m h => hm m (by simp only [List.mem_append]; simp [h]))
        exact ⟨a3.1, a5.1, a3.2, a5.2⟩
end Go.Proofs.YtcfdfgbobnocnaaGreatDoor
