/- A row of any kind that is being built; a row appended to nil at a step of a drawn region. -/
import Derived.Test.YtmamgaifpjgfkaaDfKeepD
import Derived.Test.YtmamgaifpjgfkaaDfOwnDef
namespace Go.Proofs.Ytmamgaifpjgfkaa
open Go.RowKit

/-- The row that is being built: what it reaches lies below B, or from base on. -/
def RG {α : Type} (f : α → TrS) (ty : TypeId) (n B base : Nat) (W : World) (V : Value) (q : Nat) (l : List α) : Prop := ∃ xs P, W.ownsRow base ty n V q xs ∧ TLV W P (rowOf f l) xs ∧ ∀ b, P b → (b < B ∨ base ≤ b) ∧ b < W.heap.size ∧ V.ownBlock ≠ some b
theorem own_keep {base : Nat} {w w' : World} {e : TypeId} {k m : Nat} {v : Value} {xs : List Value} (h : w.ownsRow base e k v m xs) (hb : ∀ b, base ≤ b → b < w.heap.size → w'.heap[b]? = w.heap[b]?) : w'.ownsRow base e k v m xs := by
  obtain ⟨h1, h2⟩ := h
  refine ⟨h1, h2.imp_right ?_⟩
  rintro ⟨g, cap, cur, h3, h4, h5, h6⟩
  exact ⟨g, cap, cur, h3, h4, (hb g h4 (Array.getElem?_eq_some_iff.1 h5).1).trans h5, h6⟩
section
variable {α : Type} {f : α → TrS} {ty : TypeId} {n B base : Nat}
theorem RG.start (W : World) : RG f ty n B base W (.slice none 0 0) 0 [] := ⟨[], fun _ => False, World.ownsRow_nil _ _ _ _, rfl, fun _ h => h.elim⟩
theorem RG.keep {W W' : World} {V : Value} {q : Nat} {l : List α} (h : RG f ty n B base W V q l) (hs : W.heap.size ≤ W'.heap.size) (hk : ∀ b, (b < B ∨ base ≤ b) → b < W.heap.size → W'.heap[b]? = W.heap[b]?) : RG f ty n B base W' V q l := by
  obtain ⟨xs, P, h1, h2, h3⟩ := h
  exact ⟨xs, P, own_keep h1 (fun b h h' => hk b (.inr h) h'), TLV.keep (fun b hb => ⟨hb, hk b (h3 b hb).1 (h3 b hb).2.1⟩) h2, fun b hb => ⟨(h3 b hb).1, Nat.lt_of_lt_of_le (h3 b hb).2.1 hs, (h3 b hb).2.2⟩⟩
theorem RG.low {W W' : World} {V : Value} {q : Nat} {l : List α} (h : RG f ty n B base W V q l) (hb : Below W.heap.size W W') : RG f ty n B base W' V q l :=
  h.keep hb.size (fun b _ h => hb.block b h)
theorem RG.shape {W : World} {V : Value} {q : Nat} {l : List α} (h : RG f ty n B base W V q l) : ∃ A c, V = .slice A q c := by
  obtain ⟨xs, P, h1, _⟩ := h
  exact shape_own h1
theorem RG.push {W w4 : World} {V : Value} {q g cap : Nat} {o : Obj} {l : List α} {x : α} {xs cs : List Value} {P Q : Nat → Prop} (_hown : W.ownsRow base ty n V q xs) (hv : TLV W P (rowOf f l) xs) (hP : ∀ b, P b → (b < B ∨ base ≤ b) ∧ b < W.heap.size ∧ V.ownBlock ≠ some b)
    (hx : TS W Q (f x) cs) (hQ : ∀ b, Q b → (b < B ∨ base ≤ b) ∧ b < W.heap.size ∧ V.ownBlock ≠ some b)
    (hown4 : w4.ownsRow base ty n (.slice (some ⟨g, 0, none⟩) (q + 1) cap) (q + 1) (xs ++ cs)) (hg : (W.alloc o).grownBy w4 V.ownBlock) (hat : V.ownBlock = some g ∨ g = (W.alloc o).heap.size) : RG f ty n B base w4 (.slice (some ⟨g, 0, none⟩) (q + 1) cap) (q + 1) (l ++ [x]) := by
  have hk : ∀ b, (P b ∨ Q b) → w4.heap[b]? = W.heap[b]? := fun b hb => by
    obtain ⟨_, h2, h3⟩ : _ ∧ b < W.heap.size ∧ V.ownBlock ≠ some b := hb.elim (hP b) (hQ b)
    exact (hg.block b (by simp; omega) (fun e => h3 e.symm)).trans (Below.heap_alloc W o b h2)
  refine ⟨_, fun b => P b ∨ Q b, hown4, by rw [rowOf_sn]; exact TLV.snoc (TS.keep (fun b hb => ⟨.inr hb, hk b (.inr hb)⟩) _ _ hx) (hv.keep (fun b hb => ⟨.inl hb, hk b (.inl hb)⟩)), fun b hb => ?_⟩
  obtain ⟨h1, h2, h3⟩ := hb.elim (hP b) (hQ b)
  have hs := hg.size
  refine ⟨h1, by simp at hs; omega, fun e => ?_⟩
  have e : g = b := by simpa [Value.ownBlock] using e
  rcases hat with h | h
  · exact h3 (by rw [h, e])
  · simp at h; omega
theorem RG.row {W : World} {V : Value} {l : List α} (h : RG f ty n B base W V l.length l) : ∃ A c, V = .slice A l.length c ∧ RowT W (fun b => (b < B ∨ base ≤ b) ∧ b < W.heap.size) (rowOf f l) A := by
  obtain ⟨xs, P, h1, h2, h3⟩ := h
  obtain ⟨A, c, e, h4⟩ := row_tl (by rw [rowOf_len]; exact h1) h2
  rw [rowOf_len] at e
  refine ⟨A, c, e, RowT.keep (fun b hb => ⟨?_, rfl⟩) _ _ h4⟩
  rcases hb with hb | hb
  · exact ⟨(h3 b hb).1, (h3 b hb).2.1⟩
  · exact ⟨.inr (h1.lt b hb).1, (h1.lt b hb).2⟩
/-- A row appended to nil, at a step of a drawn region. -/
theorem step_append_clone {ops : Array Oper} {o : Oper} {a : Act} {w : World} {K : Act → World → Prop} {Q : Exit → Act → World → Prop} {E : Prop} (hgd : o.guard = none) (s x : Operand) (t : TypeId)
    (ho : o.op = .call { callee := .builtin .append, args := #[s, x], argTypes := #[t, t] }) (e : TypeId) (i : TypeInfo) (z : Value) (size bytes : Nat) (ht : Try.prog.underlying t = some (.slice e)) (hi : Try.prog.info? e = some i) (hz : i.zero = some z)
    (hsize : i.size = size) (hby : i.bytes = bytes) (hzs : z.cells.size = size) (hsz : 0 < size) (hk : ∀ a, (f a).len = size) (h1 : ∀ a, oneS (f a) = true) (l : List α) (P : Nat → Prop) (A : Option Addr) (c : Nat) (hs : a.eval s = .slice none 0 0) (hx : a.eval x = .slice A l.length c) (hR : RowT w P (rowOf f l) A) (hP : ∀ b, P b → b < w.heap.size)
    (hbytes : l.length * bytes ≤ 140737488355328) (h63 : l.length ≤ maxLen)
    (h : ∀ A' c' w', RowT w' (OwnP P w.heap.size w') (rowOf f l) A' → Below w.heap.size w w' → K (a.put o.dst (.slice A' l.length c')) w') :
    if Region.wanted o (yielded ops a.tmps) = true then Oper.wp Try.prog o a w K Q else E := by
  have hw : Region.wanted o (yielded ops a.tmps) = true := by simp [Region.wanted, hgd]
  rw [if_pos hw]
  cases l with
  | nil =>
    unfold Oper.wp execOp
    simp only [ho, resolve, invoke, builtin, Sem.run_bind, Sem.run_pure, Result.andThen_ok, List.map_toArray, List.map_cons, List.map_nil, hs, hx, List.length_nil, run_append_none t o.type e i ht hi c A]
    exact h none 0 w (by rw [rowOf]; unfold RowT; trivial) (Below.refl _ _)
  | cons v r =>
    obtain ⟨b, p, rfl⟩ : ∃ b o, A = some ⟨b, o, none⟩ := row_some hR
    obtain ⟨xs, hxs, hc⟩ := row_news hR
    have hlen := tlv_len hk hxs
    refine wp_append_lies w s x t ho w.heap.size e i z size bytes ht hi hz hsize hby hzs hsz _ 0 [] hs (World.ownsRow_nil _ _ _ _) _ _ c xs hx hlen (fun j u hj => by rw [add_at]; exact hc j u hj) (tlv_one h1 hxs) (by simp) (by omega) (by rw [Nat.zero_add]; exact hbytes) (Nat.le_refl _) _ rfl ?_
    intro g cap w' hown hg hat hlt
    rw [Nat.zero_add] at hown ⊢
    have hb : Below w.heap.size w w' := below_grown (B := w.heap.size) (Below.refl _ _) hg (Nat.le_refl _) (fun k hk => by have e : none = some k := hk; cases e)
    obtain ⟨A1, c1, e1, hr1, hb1⟩ := cloned_row (ty := e) (k := size) (n := (v :: r).length) (P := P) (l := rowOf f (v :: r)) (w := w) (w' := w') ⟨_, xs, rfl, hown, TLV.keep (fun b hb' => ⟨hb', hb.block b (hP b hb')⟩) hxs, hb⟩ (rowOf_len _ _) hP
    injection e1 with e1
    rw [e1]
    exact h A1 c1 w' hr1 hb1
end
end Go.Proofs.Ytmamgaifpjgfkaa
