/- graph.Spreads. (gen_grspr.py wrote it.) -/
import Derived.Test.YtgihnhdknphhpaaGrIt
import Derived.Test.YtgihnhdknphhpaaGrMap
import Derived.Maps.OwnIn
import Derived.RangeFuncBox
namespace Go.Proofs.Ytgihnhdknphhpaa
open Go.RowKit
attribute [local go_sem] Oper.semAt_some

/-- A name more, if it is spread and new. -/
def addS (out : List ByteArray) (x : SelT) : List ByteArray := if (x.kind == 1 && !inN out x.name) = true then out ++ [x.name] else out
def sprL (XS : List SelT) : List ByteArray := XS.foldl addS []
theorem spr_next {XS : List SelT} {i : Nat} {x : SelT} (h : XS[i]? = some x) : sprL (XS.take (i + 1)) = addS (sprL (XS.take i)) x := by
  unfold sprL
  rw [List.take_add_one, h, List.foldl_append]
  rfl
theorem spr_size (XS : List SelT) (i : Nat) : (sprL (XS.take i)).length ≤ i := by
  induction i with
  | zero => rw [List.take_zero]; exact Nat.le_refl _
  | succ i ih =>
    cases h : XS[i]? with
    | none => rw [List.take_add_one, h, Option.toList_none, List.append_nil]; omega
    | some x =>
      rw [spr_next h]
      unfold addS
      split
      · rw [List.length_append, List.length_singleton]; omega
      · omega
theorem glow_put {B d : Nat} {w W : World} (h : Below B w W) (hd : B ≤ d) (o : Obj) : Below B w (W.putObj d o) :=
  ⟨h.os, h.tape, h.output, by simp; exact h.size, fun b hb => (World.putObj_heap_other (by omega)).trans (h.block b hb)⟩
/-- What a range keeps from round to round: the out box at n, the map at n + 1, its box at n + 2. -/
structure SprI (w : World) (B n : Nat) (out : List ByteArray) (Z : Nat → Prop) (W : World) : Prop where
  ie : IG B (n + 6) Z W
  zd : Z (n + 5)
  z0 : Z n
  z1 : Z (n + 1)
  z2 : ¬ Z (n + 2)
  low : Below n w W
  box : W.heap[n + 2]? = some (.cells #[.map (some (n + 1))] 75 (0, 0))
  seen : SeenM W (n + 1) out
  out : ∃ V, W.heap[n]? = some (.cells #[V] 65 (0, 0)) ∧ W.ownsRow (n + 6) 9 1 V out.length (out.map .string) ∧ ∀ b, V.ownBlock = some b → Z b
section
variable {w W W' : World} {B n : Nat} {out : List ByteArray} {Z Z' : Nat → Prop}
theorem SprI.t (h : SprI w B n out Z W) (ht : TG (n + 6) Z Z' W W') : SprI w B n out Z' W' := by
  obtain ⟨rfl, hm⟩ := ht
  have hb := h.ie.hb
  obtain ⟨V, h1, h2, h3⟩ := h.out
  have hk : ∀ b, b < n + 6 → W'.heap[b]? = W.heap[b]? := fun b hl => hm.block b (by omega) (by omega)
  exact ⟨h.ie.t ⟨rfl, hm⟩, h.zd, h.z0, h.z1, h.z2, ⟨hm.os.trans h.low.os, hm.tape.trans h.low.tape, hm.output.trans h.low.output, Nat.le_trans h.low.size hm.size, fun b hl => (hk b (by omega)).trans (h.low.block b hl)⟩, (hk _ (by omega)).trans h.box, h.seen.one (hk _ (by omega)), V, (hk _ (by omega)).trans h1, gown_one h2 (fun b e => hm.block b (h2.lt b e).2 (fun hx => hx.2 (h3 b e))), h3⟩
theorem SprI.below (h : SprI w B n out Z W) (hb : Below W.heap.size W W') : SprI w B n out Z W' := h.t (.of_below hb)
theorem SprI.put (h : SprI w B n out Z W) (o : Obj) : SprI w B n out Z (W.putObj (n + 5) o) := by
  have hb := h.ie.hb
  obtain ⟨V, h1, h2, h3⟩ := h.out
  have hk : ∀ b, b ≠ n + 5 → (W.putObj (n + 5) o).heap[b]? = W.heap[b]? := fun b hl => World.putObj_heap_other hl
  exact ⟨⟨fun b hz => by simp; exact h.ie.zlt b hz, h.ie.zB, h.ie.hB, by simp; exact hb⟩, h.zd, h.z0, h.z1, h.z2, glow_put h.low (by omega) o, (hk _ (by omega)).trans h.box, h.seen.one (hk _ (by omega)), V, (hk _ (by omega)).trans h1, gown_one h2 (fun b e => hk b (by have := (h2.lt b e).1; omega)), h3⟩
theorem RG.comp {W1 W3 : World} {o o' : Obj} {d : Nat} (hd : Z d) (_hl : ∀ b, Z b → b < W.heap.size) (hb : Below W.heap.size W W1) (hr : RG Z Z' (W1.putObj d o) W3) : RG Z Z' W (W3.putObj d o') := by
  have hs := hb.size
  have hs3 := hr.mo.size
  rw [World.putObj_size] at hs3
  exact ⟨((MoG.of_below hb).trans (MoG.put hd o)).trans (hr.mo.trans (MoG.put hd o')), fun b hlt hz => hr.old b (by simp; omega) hz, fun b hz => by simp; exact hr.lt b hz⟩
theorem RG.same (h : IG B (n + 6) Z W) : RG Z Z W W := ⟨.refl _ _, fun _ _ h => h, h.zlt⟩
theorem gown_base {base base' : Nat} {w : World} {e : TypeId} {k m : Nat} {v : Value} {xs : List Value} (h : w.ownsRow base e k v m xs) (hb : base' ≤ base) : w.ownsRow base' e k v m xs := by
  obtain ⟨h1, h2⟩ := h
  refine ⟨h1, h2.imp_right ?_⟩
  rintro ⟨g, cap, cur, h3, h4, h5⟩
  exact ⟨g, cap, cur, h3, Nat.le_trans hb h4, h5⟩
/-- A name more: behind the map's store, the append and the variable's. -/
theorem SprI.more {s : ByteArray} {V V2 : Value} {w1 w2 : World} {o : Obj} {g2 : Nat} (h : SprI w B n out Z W) (h1 : W.heap[n]? = some (.cells #[V] 65 (0, 0))) (h2 : W.ownsRow (n + 6) 9 1 V out.length (out.map .string)) (h3 : ∀ b, V.ownBlock = some b → Z b)
    (hm : SeenM w1 (n + 1) (out ++ [s])) (hg1 : W.grownBy w1 (some (n + 1)))
    (hown : w2.ownsRow (n + 6) 9 1 V2 (out.length + 1) (out.map .string ++ [.string s])) (hg2 : (w1.alloc o).grownBy w2 V.ownBlock) (hV2 : V2.ownBlock = some g2) (hat : V.ownBlock = some g2 ∨ g2 = (w1.alloc o).heap.size) :
    SprI w B n (out ++ [s]) (fun b => Z b ∨ b = g2) (w2.setCell ⟨n, 0, none⟩ V2) ∧ RG Z (fun b => Z b ∨ b = g2) W (w2.setCell ⟨n, 0, none⟩ V2) ∧ ∀ b, b < n + 6 → b ≠ n → b ≠ n + 1 → (w2.setCell ⟨n, 0, none⟩ V2).heap[b]? = W.heap[b]? := by
  have hb := h.ie.hb
  have hs1 := hg1.size
  have hs2 := hg2.size
  have hal : (w1.alloc o).heap.size = w1.heap.size + 1 := by simp
  have hsz : (w2.setCell ⟨n, 0, none⟩ V2).heap.size = w2.heap.size := by simp [World.setCell]
  have hgl := hown.lt g2 hV2
  have hBb := h.ie.hB
  have hVn : ∀ b, V.ownBlock = some b → n + 6 ≤ b := fun b e => (h2.lt b e).1
  have hk2 : ∀ b, b < w1.heap.size → V.ownBlock ≠ some b → w2.heap[b]? = w1.heap[b]? := fun b hl hne => (hg2.block b (by omega) (fun e => hne e.symm)).trans (Below.heap_alloc _ _ _ hl)
  have hk : ∀ b, b < W.heap.size → b ≠ n → b ≠ n + 1 → V.ownBlock ≠ some b → (w2.setCell ⟨n, 0, none⟩ V2).heap[b]? = W.heap[b]? := fun b hl e1 e2 e3 => (Below.heap_setCell _ _ _ _ e1).trans ((hk2 b (by omega) e3).trans (hg1.block b hl (fun e => e2 (by injection e))))
  have hz2 : ∀ b, b < W.heap.size → b = g2 → Z b := fun b hl e => by
    rcases hat with e2 | e2
    · exact h3 b (e ▸ e2)
    · omega
  have hmo : MoG Z W (w2.setCell ⟨n, 0, none⟩ V2) := ⟨hg2.os.trans hg1.os, hg2.tape.trans hg1.tape, hg2.output.trans hg1.output, by omega, fun b hl hn => hk b hl (fun e => hn (e ▸ h.z0)) (fun e => hn (e ▸ h.z1)) (fun e => hn (h3 b e))⟩
  have hrg : RG Z (fun b => Z b ∨ b = g2) W (w2.setCell ⟨n, 0, none⟩ V2) := ⟨hmo, fun b hl hz => hz.elim id (hz2 b hl), fun b hz => by
    rcases hz with hz | rfl
    · have := h.ie.zlt b hz; omega
    · omega⟩
  refine ⟨⟨h.ie.r hrg, .inl h.zd, .inl h.z0, .inl h.z1, fun hz => ?_, ?_, (hk _ (by omega) (by omega) (by omega) (fun e => by have := hVn _ e; omega)).trans h.box, hm.one ((Below.heap_setCell _ _ _ _ (by show n + 1 ≠ n; omega)).trans (hk2 _ (by omega) (fun e => by have := hVn _ e; omega))), V2, ?_, ?_, fun b e => .inr ?_⟩, hrg, fun b hl e1 e2 => hk b (by omega) e1 e2 (fun e => by have := hVn b e; omega)⟩
  · rcases hz with hz | hz
    · exact h.z2 hz
    · omega
  · exact ⟨hmo.os.trans h.low.os, hmo.tape.trans h.low.tape, hmo.output.trans h.low.output, Nat.le_trans h.low.size hmo.size, fun b hl => (hk b (by omega) (by omega) (by omega) (fun e => by have := hVn _ e; omega)).trans (h.low.block b hl)⟩
  · have hbx : w2.heap[n]? = some (.cells #[V] 65 (0, 0)) := (hk2 n (by omega) (fun e => by have := hVn _ e; omega)).trans ((hg1.block n (by omega) (fun e => by injection e with e; omega)).trans h1)
    simp [World.setCell, Array.getElem?_modify, hbx]
  · rw [List.length_append, List.length_singleton, List.map_append]
    exact gown_one hown (fun b e => Below.heap_setCell _ _ _ _ (by show b ≠ n; have := (hown.lt b e).1; omega))
  · rw [hV2] at e
    injection e with e
    exact e.symm
end
theorem gpostM_mark {n : Nat} {P : Program} {fn : Func} {R : Ending → World → Prop} {a : Act} {w : World} {v : Value} {D : Nat} (hd : a.defers = [{ target := .collected D, args := #[] }]) (hK : w.heap[D]? = some (.deferred (some []))) (hr : ∀ w', (∀ b, b ≠ D → w'.heap[b]? = w.heap[b]?) → (results fn a.tmps).run P w' = .ok v w') (hR : ∀ w', w'.os = w.os → w'.tape = w.tape → w'.output = w.output → w'.heap.size = w.heap.size → (∀ b, b ≠ D → w'.heap[b]? = w.heap[b]?) → R (.returned v) w') : bodyPostM Fence.wide n P fn R .ret a w := by
  show LeavesInM _ _ _ _ _ _ a.defers _ _
  rw [hd]
  refine ⟨by simp, .inl ⟨_, _, rfl, run_takeDeferred hK, ?_⟩⟩
  exact ⟨v, hr _ (fun b hb => World.putObj_heap_other hb), hR _ rfl rfl rfl (by simp) (fun b hb => World.putObj_heap_other hb)⟩
theorem gone_box {w : World} {g : Nat} {u : Value} {t : TypeId} (h : w.heap[g]? = some (.cells #[u] t (0, 0))) : w.cell? ⟨g, 0, none⟩ = some u ∧ w.frozen? ⟨g, 0, none⟩ = false := by
  simp [World.cell?, World.frozen?, h]
theorem gstr_row : ∃ i z, Try.prog.info? 9 = some i ∧ i.zero = some z ∧ i.size = 1 ∧ i.bytes = 16 ∧ z.cells.size = 1 := ginfo_of (by kernel_rfl)
theorem gset_one {w : World} {g : Nat} {u x : Value} {t : TypeId} (h : w.heap[g]? = some (.cells #[u] t (0, 0))) : (w.setCell ⟨g, 0, none⟩ x).heap[g]? = some (.cells #[x] t (0, 0)) := by
  simp [World.setCell, Array.getElem?_modify, h]
/-- The blocks at the range's start. -/
theorem spr_start (w : World) : ∀ W, W = ((w.alloc (.cells #[.slice none 0 0] 65)).alloc (.map #[] 0)).alloc (.cells #[.map (some (w.heap.size + 1))] 75) →
    W.heap.size = w.heap.size + 3 ∧ Below w.heap.size w W ∧ W.heap[w.heap.size]? = some (.cells #[.slice none 0 0] 65 (0, 0)) ∧ SeenM W (w.heap.size + 1) [] ∧ W.heap[w.heap.size + 2]? = some (.cells #[.map (some (w.heap.size + 1))] 75 (0, 0)) := by
  rintro W rfl
  have e1 : (w.alloc (.cells #[.slice none 0 0] 65)).heap.size = w.heap.size + 1 := by simp
  have e2 : ((w.alloc (.cells #[.slice none 0 0] 65)).alloc (.map #[] 0)).heap.size = w.heap.size + 2 := by simp
  refine ⟨by simp, (((Below.refl _ _).alloc (Nat.le_refl _) _).alloc (by simp) _).alloc (by simp; omega) _, ?_, ?_, ?_⟩
  · rw [Below.heap_alloc _ _ _ (by simp; omega), Below.heap_alloc _ _ _ (by simp)]
    exact heap_alloc_new _ _
  · have h := SeenM.made (w.alloc (.cells #[.slice none 0 0] 65))
    rw [e1] at h
    exact h.one (Below.heap_alloc _ _ _ (by simp))
  · have h := heap_alloc_new ((w.alloc (.cells #[.slice none 0 0] 65)).alloc (.map #[] 0)) (.cells #[.map (some (w.heap.size + 1))] 75)
    rw [e2] at h
    exact h
end Go.Proofs.Ytgihnhdknphhpaa
