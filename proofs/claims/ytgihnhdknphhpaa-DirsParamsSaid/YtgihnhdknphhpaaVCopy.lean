/- The walk of seinekeep.Value: a copy of a value, from that of its parts. -/
import Derived.Test.YtgihnhdknphhpaaVRow
import Derived.OwnWalk
import Derived.Deep.AppendLies
namespace Go.Proofs.Ytgihnhdknphhpaa
open Go.RowKit

theorem info_val : (Try.prog.info? 28).map (fun i => (i.zero, i.size, i.bytes)) = some (some (.agg #[.int .i64 0, .int .i64 0, .string ⟨#[]⟩, .slice none 0 0, .slice none 0 0]), 5, 80) := by kernel_rfl
theorem info_mem : (Try.prog.info? 57).map (fun i => (i.zero, i.size, i.bytes)) = some (some (.agg #[.string ⟨#[]⟩, .int .i64 0, .int .i64 0, .string ⟨#[]⟩, .slice none 0 0, .slice none 0 0]), 6, 96) := by kernel_rfl
theorem sizeV_pos : ∀ v : VT, 1 ≤ sizeV v
  | .mk _ _ _ _ _ => by rw [sizeV]; omega
theorem lenL_le : ∀ l : VL, l.len ≤ sizeL l
  | .nil => Nat.le_refl _
  | .cons v t => by rw [VL.len, sizeL]; have := lenL_le t; have := sizeV_pos v; omega
theorem lenM_le : ∀ l : VM, l.len ≤ sizeM l
  | .nil => Nat.le_refl _
  | .cons nm v t => by rw [VM.len, sizeM]; have := lenM_le t; have := sizeV_pos v; omega
mutual
/-- No list in it takes more than 2^47 bytes. -/
def SlimV : VT → Prop
  | .mk _ _ _ l m => l.len * 80 ≤ 140737488355328 ∧ m.len * 96 ≤ 140737488355328 ∧ SlimL l ∧ SlimM m
def SlimL : VL → Prop
  | .nil => True
  | .cons v t => SlimV v ∧ SlimL t
def SlimM : VM → Prop
  | .nil => True
  | .cons _ v t => SlimV v ∧ SlimM t
end
theorem SlimL.get : ∀ {l : VL} {j : Nat} {v : VT}, SlimL l → l.get j = some v → SlimV v
  | .nil, _, _, _, h => by simp [VL.get] at h
  | .cons u t, 0, v, hs, h => by
    have : u = v := by simpa [VL.get] using h
    subst this
    unfold SlimL at hs
    exact hs.1
  | .cons u t, j + 1, v, hs, h => by
    unfold SlimL at hs
    exact SlimL.get (l := t) (j := j) hs.2 h
theorem SlimM.get : ∀ {l : VM} {j : Nat} {nm : ByteArray} {v : VT}, SlimM l → l.get j = some (nm, v) → SlimV v
  | .nil, _, _, _, _, h => by simp [VM.get] at h
  | .cons x u t, 0, nm, v, hs, h => by
    have : x = nm ∧ u = v := by simpa [VM.get] using h
    obtain ⟨_, rfl⟩ := this
    unfold SlimM at hs
    exact hs.1
  | .cons x u t, j + 1, nm, v, hs, h => by
    unfold SlimM at hs
    exact SlimM.get (l := t) (j := j) hs.2 h
mutual
theorem slim_of : ∀ v : VT, sizeV v ≤ 1000000000 → SlimV v
  | .mk k n s l m, h => by
    rw [sizeV] at h
    have h1 := lenL_le l
    have h2 := lenM_le m
    unfold SlimV
    exact ⟨by omega, by omega, slimL_of l (by omega), slimM_of m (by omega)⟩
theorem slimL_of : ∀ l : VL, sizeL l ≤ 1000000000 → SlimL l
  | .nil, _ => by unfold SlimL; trivial
  | .cons v t, h => by
    rw [sizeL] at h
    unfold SlimL
    exact ⟨slim_of v (by omega), slimL_of t (by omega)⟩
theorem slimM_of : ∀ l : VM, sizeM l ≤ 1000000000 → SlimM l
  | .nil, _ => by unfold SlimM; trivial
  | .cons nm v t, h => by
    rw [sizeM] at h
    unfold SlimM
    exact ⟨slim_of v (by omega), slimM_of t (by omega)⟩
end
/-- The blocks that are new since w. -/
def Fresh (w w' : World) (b : Nat) : Prop := w.heap.size ≤ b ∧ b < w'.heap.size
/-- The row that is being built. -/
def RT (base : Nat) (W : World) (V : Value) (q : Nat) (l : VL) : Prop := ∃ xs P, W.ownsRow base 28 5 V q xs ∧ ValsL W P l xs ∧ ∀ b, P b → base ≤ b ∧ b < W.heap.size ∧ V.ownBlock ≠ some b
def RM (base : Nat) (W : World) (V : Value) (q : Nat) (l : VM) : Prop := ∃ xs P, W.ownsRow base 57 6 V q xs ∧ ValsM W P l xs ∧ ∀ b, P b → base ≤ b ∧ b < W.heap.size ∧ V.ownBlock ≠ some b
theorem RT.start (base : Nat) (W : World) : RT base W (.slice none 0 0) 0 .nil := ⟨[], fun _ => False, World.ownsRow_nil _ _ _ _, rfl, fun _ h => h.elim⟩
theorem RM.start (base : Nat) (W : World) : RM base W (.slice none 0 0) 0 .nil := ⟨[], fun _ => False, World.ownsRow_nil _ _ _ _, rfl, fun _ h => h.elim⟩
theorem own_low {B : Nat} {e : TypeId} {k : Nat} {v : Value} {n : Nat} {xs : List Value} {w w' : World} (h : w.ownsRow B e k v n xs) (hb : Below w.heap.size w w') : w'.ownsRow B e k v n xs :=
  h.kept (row := none) ⟨hb.os, hb.tape, hb.output, hb.size, fun j hj _ => hb.block j hj⟩ (Classical.em _)
/-- What the step of an append keeps, block by block. -/
theorem step_blocks {wr w2 w4 : World} {V : Value} {g : Nat} {o : Obj} {P : Nat → Prop} {base : Nat} (hbase : base ≤ wr.heap.size) (hV : ∀ k, V.ownBlock = some k → k < wr.heap.size) (hP : ∀ b, P b → base ≤ b ∧ b < wr.heap.size ∧ V.ownBlock ≠ some b)
    (hb : Below wr.heap.size wr w2) (hg : (w2.alloc o).grownBy w4 V.ownBlock) (hat : V.ownBlock = some g ∨ g = (w2.alloc o).heap.size) :
    (∀ b, P b → (P b ∨ Fresh wr w2 b) ∧ w4.heap[b]? = wr.heap[b]?) ∧ (∀ b, Fresh wr w2 b → (P b ∨ Fresh wr w2 b) ∧ w4.heap[b]? = w2.heap[b]?) ∧ (∀ b, P b ∨ Fresh wr w2 b → base ≤ b ∧ b < w4.heap.size ∧ some g ≠ some b) := by
  have hs2 := hb.size
  have hs4 := hg.size
  have ha : (w2.alloc o).heap.size = w2.heap.size + 1 := by simp
  have hn : ∀ b, Fresh wr w2 b → V.ownBlock ≠ some b := fun b h e => by have := hV b e; have := h.1; omega
  refine ⟨fun b h => ⟨.inl h, ?_⟩, fun b h => ⟨.inr h, ?_⟩, fun b h => ?_⟩
  · obtain ⟨_, h1, h2⟩ := hP b h
    rw [hg.block b (by omega) (fun e => h2 e.symm), Below.heap_alloc _ _ _ (by omega), hb.block b h1]
  · have h1 := h.2
    rw [hg.block b (by omega) (fun e => hn b h e.symm), Below.heap_alloc _ _ _ h1]
  · have hlt : base ≤ b ∧ b < w2.heap.size ∧ V.ownBlock ≠ some b := by
      rcases h with h | h
      · obtain ⟨h0, h1, h2⟩ := hP b h
        exact ⟨h0, by omega, h2⟩
      · exact ⟨Nat.le_trans hbase h.1, h.2, hn b h⟩
    refine ⟨hlt.1, by omega, fun e => ?_⟩
    rcases hat with hat | hat
    · exact hlt.2.2 (hat.trans e)
    · have : g = b := by injection e
      omega
theorem RT.next {base q cap g : Nat} {wr w2 w4 : World} {V : Value} {l : VL} {v : VT} {o : Obj} {xs : List Value} {P : Nat → Prop} {d0 d1 d2 d3 d4 : Value} (hbase : base ≤ wr.heap.size) (hown : wr.ownsRow base 28 5 V q xs) (hv : ValsL wr P l xs) (hP : ∀ b, P b → base ≤ b ∧ b < wr.heap.size ∧ V.ownBlock ≠ some b)
    (hb : Below wr.heap.size wr w2) (hd : VP w2 (Fresh wr w2) v d0 d1 d2 d3 d4) (hown4 : w4.ownsRow base 28 5 (.slice (some ⟨g, 0, none⟩) (q + 1) cap) (q + 1) (xs ++ [d0, d1, d2, d3, d4])) (hg : (w2.alloc o).grownBy w4 V.ownBlock) (hat : V.ownBlock = some g ∨ g = (w2.alloc o).heap.size) :
    RT base w4 (.slice (some ⟨g, 0, none⟩) (q + 1) cap) (q + 1) (l.snoc v) := by
  obtain ⟨h1, h2, h3⟩ := step_blocks hbase (fun k hk => (hown.lt k hk).2) hP hb hg hat
  exact ⟨_, fun b => P b ∨ Fresh wr w2 b, hown4, ValsL.snoc (VP.keep h2 _ _ _ _ _ _ hd) (hv.keep h1), h3⟩
theorem RM.next {base q cap g : Nat} {wr w2 w4 : World} {V : Value} {l : VM} {nm : ByteArray} {v : VT} {o : Obj} {xs : List Value} {P : Nat → Prop} {d0 d1 d2 d3 d4 : Value} (hbase : base ≤ wr.heap.size) (hown : wr.ownsRow base 57 6 V q xs) (hv : ValsM wr P l xs) (hP : ∀ b, P b → base ≤ b ∧ b < wr.heap.size ∧ V.ownBlock ≠ some b) (hnm : nm.size ≤ 9223372036854775807)
    (hb : Below wr.heap.size wr w2) (hd : VP w2 (Fresh wr w2) v d0 d1 d2 d3 d4) (hown4 : w4.ownsRow base 57 6 (.slice (some ⟨g, 0, none⟩) (q + 1) cap) (q + 1) (xs ++ [.string nm, d0, d1, d2, d3, d4])) (hg : (w2.alloc o).grownBy w4 V.ownBlock) (hat : V.ownBlock = some g ∨ g = (w2.alloc o).heap.size) :
    RM base w4 (.slice (some ⟨g, 0, none⟩) (q + 1) cap) (q + 1) (l.snoc nm v) := by
  obtain ⟨h1, h2, h3⟩ := step_blocks hbase (fun k hk => (hown.lt k hk).2) hP hb hg hat
  exact ⟨_, fun b => P b ∨ Fresh wr w2 b, hown4, ValsM.snoc hnm (VP.keep h2 _ _ _ _ _ _ hd) (hv.keep h1), h3⟩
theorem shape_own {w : World} {base sz : Nat} {e : TypeId} {v : Value} {n : Nat} {xs : List Value} (h : w.ownsRow base e sz v n xs) : ∃ A cap, v = .slice A n cap := by
  rcases h.2 with ⟨hv, hn⟩ | ⟨g, cap, cur, hv, _⟩
  · exact ⟨none, 0, by rw [hv, hn]⟩
  · exact ⟨_, _, hv⟩
theorem five_new (w : World) (a0 a1 a2 a3 a4 : Value) (t : TypeId) {n : Nat} (hn : n = w.heap.size) : ∀ (j : Nat) u, [a0, a1, a2, a3, a4][j]? = some u → (w.alloc (.cells #[a0, a1, a2, a3, a4] t)).cell? ((⟨n, 0, none⟩ : Addr).add j) = some u := by
  subst hn
  intro j u hu
  rw [add_at, Nat.zero_add]
  match j, hu with
  | 0, hu => cases hu; rw [World.cell?_alloc_at _ _ _ _ rfl]; rfl
  | 1, hu => cases hu; rw [World.cell?_alloc_at _ _ _ _ rfl]; rfl
  | 2, hu => cases hu; rw [World.cell?_alloc_at _ _ _ _ rfl]; rfl
  | 3, hu => cases hu; rw [World.cell?_alloc_at _ _ _ _ rfl]; rfl
  | 4, hu => cases hu; rw [World.cell?_alloc_at _ _ _ _ rfl]; rfl
theorem six_new (w : World) (a a0 a1 a2 a3 a4 : Value) (t : TypeId) {n : Nat} (hn : n = w.heap.size) : ∀ (j : Nat) u, [a, a0, a1, a2, a3, a4][j]? = some u → (w.alloc (.cells #[a, a0, a1, a2, a3, a4] t)).cell? ((⟨n, 0, none⟩ : Addr).add j) = some u := by
  subst hn
  intro j u hu
  rw [add_at, Nat.zero_add]
  match j, hu with
  | 0, hu => cases hu; rw [World.cell?_alloc_at _ _ _ _ rfl]; rfl
  | 1, hu => cases hu; rw [World.cell?_alloc_at _ _ _ _ rfl]; rfl
  | 2, hu => cases hu; rw [World.cell?_alloc_at _ _ _ _ rfl]; rfl
  | 3, hu => cases hu; rw [World.cell?_alloc_at _ _ _ _ rfl]; rfl
  | 4, hu => cases hu; rw [World.cell?_alloc_at _ _ _ _ rfl]; rfl
  | 5, hu => cases hu; rw [World.cell?_alloc_at _ _ _ _ rfl]; rfl
end Go.Proofs.Ytgihnhdknphhpaa
