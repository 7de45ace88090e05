/- The iterator of graph's each: all selections, in the order in which they are met. (gen_grit.py wrote it.) -/
import Derived.Test.YtgihnhdknphhpaaGrPre
import Derived.Test.YtgihnhdknphhpaaGrKb
import Derived.Test.YtgihnhdknphhpaaLtRange
import Derived.Sort.LoopGhostIn
import Derived.Sort.CutIn
import Derived.WalkSmall
import Derived.Deep.AppendLies
import Derived.Laws.OwnMore
namespace Go.Proofs.Ytgihnhdknphhpaa
open Go.RowKit

/-- All blocks stand but those of X. -/
structure MoG (X : Nat → Prop) (w w' : World) : Prop where
  os : w'.os = w.os
  tape : w'.tape = w.tape
  output : w'.output = w.output
  size : w.heap.size ≤ w'.heap.size
  block : ∀ b, b < w.heap.size → ¬ X b → w'.heap[b]? = w.heap[b]?
theorem MoG.refl (X : Nat → Prop) (w : World) : MoG X w w := ⟨rfl, rfl, rfl, Nat.le_refl _, fun _ _ _ => rfl⟩
theorem MoG.trans {X : Nat → Prop} {a b c : World} (h : MoG X a b) (k : MoG X b c) : MoG X a c :=
  ⟨k.os.trans h.os, k.tape.trans h.tape, k.output.trans h.output, Nat.le_trans h.size k.size, fun i h1 h2 => (k.block i (Nat.lt_of_lt_of_le h1 h.size) h2).trans (h.block i h1 h2)⟩
theorem MoG.of_below {X : Nat → Prop} {a b : World} (h : Below a.heap.size a b) : MoG X a b := ⟨h.os, h.tape, h.output, h.size, fun i hi _ => h.block i hi⟩
theorem MoG.mono {X Y : Nat → Prop} {a b : World} (h : MoG X a b) (hXY : ∀ i, X i → Y i) : MoG Y a b := ⟨h.os, h.tape, h.output, h.size, fun i h1 h2 => h.block i h1 (fun hx => h2 (hXY i hx))⟩
theorem MoG.put {X : Nat → Prop} {a : World} {d : Nat} (hX : X d) (o : Obj) : MoG X a (a.putObj d o) := ⟨rfl, rfl, rfl, by simp, fun _ _ hn => World.putObj_heap_other (fun e => hn (e ▸ hX))⟩
theorem MoG.set {X : Nat → Prop} {a : World} {d i : Nat} (hX : X d) (v : Value) : MoG X a (a.setCell ⟨d, i, none⟩ v) := ⟨rfl, rfl, rfl, by simp [World.setCell], fun _ _ hn => Below.heap_setCell _ _ _ _ (fun e => hn (e ▸ hX))⟩
theorem MoG.low {X : Nat → Prop} {N : Nat} {a b : World} (h : MoG X a b) (hX : ∀ i, i < N → ¬ X i) (hN : N ≤ a.heap.size) : Below N a b := ⟨h.os, h.tape, h.output, h.size, fun i hi => h.block i (Nat.lt_of_lt_of_le hi hN) (hX i hi)⟩
theorem MoG.grown {X : Nat → Prop} {a b : World} {r : Option Nat} (h : a.grownBy b r) (hr : ∀ i, r = some i → X i) : MoG X a b := ⟨h.os, h.tape, h.output, h.size, fun i hi hn => h.block i hi (fun e => hn (hr i e.symm))⟩
theorem MoG.heap {X : Nat → Prop} {a b : World} {i : Nat} {o : Obj} (h : MoG X a b) (ho : a.heap[i]? = some o) (hn : ¬ X i) : b.heap[i]? = some o := (h.block i (Array.getElem?_eq_some_iff.1 ho).1 hn).trans ho
/-- The iterator's own steps: what lies below base stands, and the blocks that rounds write. -/
structure TG (base : Nat) (G G' : Nat → Prop) (A B : World) : Prop where
  z : G' = G
  mo : MoG (fun b => base ≤ b ∧ ¬ G b) A B
/-- What a round leaves. -/
structure RG (G G' : Nat → Prop) (A B : World) : Prop where
  mo : MoG G A B
  old : ∀ b, b < A.heap.size → G' b → G b
  lt : ∀ b, G' b → b < B.heap.size
/-- The iterator's surroundings. -/
structure IG (B base : Nat) (G : Nat → Prop) (W : World) : Prop where
  zlt : ∀ b, G b → b < W.heap.size
  zB : ∀ b, b < B → ¬ G b
  hB : B ≤ base
  hb : base ≤ W.heap.size
theorem IG.t {B base : Nat} {G G' : Nat → Prop} {W W' : World} (h : IG B base G W) (ht : TG base G G' W W') : IG B base G' W' := by
  obtain ⟨rfl, hm⟩ := ht
  exact ⟨fun b hz => Nat.lt_of_lt_of_le (h.zlt b hz) hm.size, h.zB, h.hB, Nat.le_trans h.hb hm.size⟩
theorem IG.r {B base : Nat} {G G' : Nat → Prop} {W W' : World} (h : IG B base G W) (hr : RG G G' W W') : IG B base G' W' := by
  have h1 := h.hB
  have h2 := h.hb
  exact ⟨hr.lt, fun b hb hz => h.zB b hb (hr.old b (by omega) hz), h.hB, Nat.le_trans h.hb hr.mo.size⟩
theorem TG.of_below {base : Nat} {G : Nat → Prop} {W W' : World} (h : Below W.heap.size W W') : TG base G G W W' := ⟨rfl, .of_below h⟩
theorem gown_one {base : Nat} {w w' : World} {e : TypeId} {k m : Nat} {v : Value} {xs : List Value} (h : w.ownsRow base e k v m xs) (hb : ∀ b, v.ownBlock = some b → w'.heap[b]? = w.heap[b]?) : w'.ownsRow base e k v m xs := by
  obtain ⟨h1, h2⟩ := h
  refine ⟨h1, h2.imp_right ?_⟩
  rintro ⟨g, cap, cur, h3, h4, h5, h6⟩
  exact ⟨g, cap, cur, h3, h4, (hb g (by rw [h3]; rfl)).trans h5, h6⟩
/-- The stack of lists. -/
def STG (G : Nat → Prop) (W : World) (B base : Nat) (V : Value) (stk : List SelL) : Prop :=
  ∃ vs : List Value, W.ownsRow base 40 1 V stk.length vs ∧ (∀ (j : Nat) l, stk[j]? = some l → ∃ A c, vs[j]? = some (.slice A l.len c) ∧ l.len ≤ c ∧ SelsAt W B l A) ∧ ∀ k, V.ownBlock = some k → ¬ G k
section
variable {G G' : Nat → Prop} {W W' : World} {B base : Nat} {V : Value} {stk init : List SelL} {l t L : SelL}
theorem STG.blk (h : STG G W B base V stk) (hB : ∀ b, b < B → W'.heap[b]? = W.heap[b]?) (hb : ∀ b, V.ownBlock = some b → b < W.heap.size → ¬ G b → W'.heap[b]? = W.heap[b]? ∧ ¬ G' b) : STG G' W' B base V stk := by
  obtain ⟨vs, h1, h2, h3⟩ := h
  refine ⟨vs, gown_one h1 (fun b e => (hb b e (h1.lt b e).2 (h3 b e)).1), fun j l hj => ?_, fun k e => (hb k e (h1.lt k e).2 (h3 k e)).2⟩
  obtain ⟨A, c, g1, g2, g3⟩ := h2 j l hj
  exact ⟨A, c, g1, g2, g3.keep (Nat.le_refl _) hB⟩
theorem STG.below (h : STG G W B base V stk) (hBW : B ≤ W.heap.size) (hb : Below W.heap.size W W') : STG G W' B base V stk :=
  h.blk (fun b h1 => hb.block b (by omega)) (fun b _ h2 h3 => ⟨hb.block b h2, h3⟩)
theorem STG.r (h : STG G W B base V stk) (ie : IG B base G W) (hr : RG G G' W W') : STG G' W' B base V stk := by
  have h1 := ie.hB
  have h2 := ie.hb
  exact h.blk (fun b hb => hr.mo.block b (by omega) (ie.zB b hb)) (fun b _ hl hz => ⟨hr.mo.block b hl hz, fun hz' => hz (hr.old b hl hz')⟩)
theorem STG.shape (h : STG G W B base V stk) : ∃ A c, V = .slice A stk.length c := by
  obtain ⟨vs, h1, _⟩ := h
  exact shape_own h1
theorem STG.last (h : STG G W B base V (init ++ [l])) : ∃ g cp A c, V = .slice (some ⟨g, 0, none⟩) (init.length + 1) cp ∧ init.length + 1 ≤ cp ∧ base ≤ g ∧ g < W.heap.size ∧ ¬ G g ∧ W.cell? ⟨g, init.length, none⟩ = some (.slice A l.len c) ∧ W.frozen? ⟨g, init.length, none⟩ = false ∧ l.len ≤ c ∧ SelsAt W B l A := by
  obtain ⟨vs, h1, h2, h3⟩ := h
  obtain ⟨A, c, h4, h5, h6⟩ := h2 init.length l (by simp)
  obtain ⟨g, cp, rfl, hb, hg⟩ := World.ownsRow.form h1 (by simp)
  rw [List.length_append, List.length_singleton] at h1 ⊢
  refine ⟨g, cp, A, c, rfl, by
    rcases h1.2 with ⟨e, _⟩ | ⟨g', cap, cur, e, _, _, hnc, _⟩
    · cases e
    · simp only [Value.slice.injEq, true_and] at e
      obtain ⟨_, rfl⟩ := e
      exact hnc, hb, hg, h3 g rfl, ?_, h1.frozenAt _, h5, h6⟩
  have := h1.cells (g := g) rfl init.length _ h4
  rw [add_at] at this
  simpa using this
theorem STG.pop {g cp : Nat} (h : STG G W B base (.slice (some ⟨g, 0, none⟩) (init.length + 1) cp) (init ++ [l])) : STG G W B base (.slice (some ⟨g, 0, none⟩) init.length cp) init := by
  obtain ⟨vs, h1, h2, h3⟩ := h
  have hl : vs.length = init.length + 1 := by have := h1.1; simpa using this
  have hvs : vs = vs.take init.length ++ vs.drop init.length := (List.take_append_drop _ _).symm
  rw [List.length_append, List.length_singleton] at h1
  rw [hvs] at h1
  refine ⟨vs.take init.length, ownsRow_pop (by rw [List.length_take]; omega) h1, fun j l' hj => ?_, h3⟩
  have hjl : j < init.length := (List.getElem?_eq_some_iff.1 hj).1
  obtain ⟨A, c, g1, g2⟩ := h2 j l' (by rw [List.getElem?_append_left hjl]; exact hj)
  exact ⟨A, c, by rw [List.getElem?_take_of_lt hjl]; exact g1, g2⟩
/-- The innermost list is cut. -/
theorem STG.cut {g cp c : Nat} {A : Option Addr} (h : STG G W B base (.slice (some ⟨g, 0, none⟩) (init.length + 1) cp) (init ++ [l])) (hBb : B ≤ base) (hc : t.len ≤ c) (hA : SelsAt W B t A) : STG G (W.setCell ⟨g, init.length, none⟩ (.slice A t.len c)) B base (.slice (some ⟨g, 0, none⟩) (init.length + 1) cp) (init ++ [t]) := by
  obtain ⟨vs, h1, h2, h3⟩ := h
  rw [List.length_append, List.length_singleton] at h1
  have hl : vs.length = init.length + 1 := by have := h1.1; simpa using this
  have hs := h1.stored init.length (.slice A t.len c)
  have hg := h1.lt g rfl
  have hk : ∀ b, b < B → (W.setCell ⟨g, init.length, none⟩ (.slice A t.len c)).heap[b]? = W.heap[b]? := fun b hb => Below.heap_setCell _ _ _ _ (by show b ≠ g; omega)
  refine ⟨vs.set init.length (.slice A t.len c), by rw [List.length_append, List.length_singleton]; exact hs.1, fun j l' hj => ?_, h3⟩
  rcases Nat.lt_or_ge j init.length with hj1 | hj1
  · rw [List.getElem?_append_left hj1] at hj
    obtain ⟨A', c', p1, p2, p3⟩ := h2 j l' (by rw [List.getElem?_append_left hj1]; exact hj)
    exact ⟨A', c', by rw [List.getElem?_set_ne (by omega)]; exact p1, p2, p3.keep (Nat.le_refl _) hk⟩
  · obtain rfl : j = init.length := by
      have := (List.getElem?_eq_some_iff.1 hj).1
      simp at this
      omega
    obtain rfl : t = l' := by simpa using hj
    exact ⟨A, c, by rw [List.getElem?_set_self (by omega)], hc, hA.keep (Nat.le_refl _) hk⟩
/-- One more list. -/
theorem STG.push {g cp g6 cap6 c6 : Nat} {A6 : Option Addr} {o : Obj} {vs : List Value} (ie : IG B base G W)
    (h1 : W.ownsRow base 40 1 (.slice (some ⟨g, 0, none⟩) stk.length cp) stk.length vs) (h2 : ∀ (j : Nat) l', stk[j]? = some l' → ∃ A c, vs[j]? = some (.slice A l'.len c) ∧ l'.len ≤ c ∧ SelsAt W B l' A) (h3 : ¬ G g)
    (hc : L.len ≤ c6) (hA : SelsAt W B L A6) (hown : W'.ownsRow base 40 1 (.slice (some ⟨g6, 0, none⟩) (stk.length + 1) cap6) (stk.length + 1) (vs ++ [.slice A6 L.len c6]))
    (hg6 : (W.alloc o).grownBy W' (some g)) (hat : (some g : Option Nat) = some g6 ∨ g6 = (W.alloc o).heap.size) : STG G W' B base (.slice (some ⟨g6, 0, none⟩) (stk.length + 1) cap6) (stk ++ [L]) ∧ TG base G G W W' := by
  have hg := h1.lt g rfl
  have h4 := ie.hB
  have h5 := ie.hb
  have hs : (W.alloc o).heap.size = W.heap.size + 1 := by simp
  have hs6 := hg6.size
  have hk : ∀ b, b < W.heap.size → b ≠ g → W'.heap[b]? = W.heap[b]? := fun b hb hne => (hg6.block b (by omega) (fun e => hne (by injection e))).trans (Below.heap_alloc _ _ _ hb)
  have hkB : ∀ b, b < B → W'.heap[b]? = W.heap[b]? := fun b hb => hk b (by omega) (by omega)
  have hlv : vs.length = stk.length := by have := h1.1; simpa using this
  refine ⟨⟨_, by rw [List.length_append, List.length_singleton]; exact hown, fun j l' hj => ?_, fun k e => ?_⟩, rfl, ⟨hg6.os, hg6.tape, hg6.output, by omega, fun b hb hn => hk b hb (fun e => hn ⟨by omega, e ▸ h3⟩)⟩⟩
  · rcases Nat.lt_or_ge j stk.length with hj1 | hj1
    · rw [List.getElem?_append_left hj1] at hj
      obtain ⟨A', c', p1, p2, p3⟩ := h2 j l' hj
      exact ⟨A', c', by rw [List.getElem?_append_left (by omega)]; exact p1, p2, p3.keep (Nat.le_refl _) hkB⟩
    · obtain rfl : j = stk.length := by
        have := (List.getElem?_eq_some_iff.1 hj).1
        simp at this
        omega
      obtain rfl : L = l' := by simpa using hj
      exact ⟨A6, c6, by rw [List.getElem?_append_right (by omega), hlv]; simp, hc, hA.keep (Nat.le_refl _) hkB⟩
  · have e : g6 = k := by simpa [Value.ownBlock] using e
    subst e
    rcases hat with e | e
    · injection e with e
      exact e ▸ h3
    · exact fun hz => by have := ie.zlt _ hz; omega
end
theorem ginfo_of {t : TypeId} {k b : Nat} (h : ((Try.prog.info? t).map fun i => (i.zero.map (·.cells.size), i.size, i.bytes)) = some (some k, k, b)) : ∃ i z, Try.prog.info? t = some i ∧ i.zero = some z ∧ i.size = k ∧ i.bytes = b ∧ z.cells.size = k := by
  cases hi : Try.prog.info? t with
  | none => rw [hi] at h; cases h
  | some i =>
    rw [hi] at h
    cases hz : i.zero with
    | none => simp [hz] at h
    | some z =>
      simp [hz] at h
      exact ⟨i, z, rfl, hz, h.2.1, h.2.2, h.1⟩
theorem gsels_row : ∃ i z, Try.prog.info? 40 = some i ∧ i.zero = some z ∧ i.size = 1 ∧ i.bytes = 24 ∧ z.cells.size = 1 := ginfo_of (by kernel_rfl)
theorem gone_news (w : World) (c : Value) (t : TypeId) {n : Nat} (hn : n = w.heap.size) : ∀ (j : Nat) u, [c][j]? = some u → (w.alloc (.cells #[c] t)).cell? ((⟨n, 0, none⟩ : Addr).add j) = some u := by
  subst hn
  intro j u hu
  rw [add_at, Nat.zero_add]
  match j, hu with
  | 0, hu => cases hu; rw [World.cell?_alloc_at _ _ _ _ rfl]; rfl
theorem stg_start {G : Nat → Prop} {W : World} {B : Nat} {l : SelL} {A : Option Addr} {k : Nat} (ie : IG B W.heap.size G W) (hk : l.len ≤ k) (hA : SelsAt W B l A) :
    STG G (W.alloc (.cells #[.slice A l.len k] 40)) B W.heap.size (.slice (some ⟨W.heap.size, 0, none⟩) 1 1) [l] := by
  refine ⟨[.slice A l.len k], ⟨by simp, .inr ⟨W.heap.size, 1, #[.slice A l.len k], rfl, Nat.le_refl _, heap_alloc_new _ _, Nat.le_refl _, by decide, by simp, by simp⟩⟩, fun j l' hj => ?_, fun k e => ?_⟩
  · obtain ⟨rfl, rfl⟩ : j = 0 ∧ l' = l := by
      cases j with
      | zero => exact ⟨rfl, by simpa using hj.symm⟩
      | succ j => simp at hj
    exact ⟨A, k, rfl, hk, hA.keep (Nat.le_refl _) (fun b hb => Below.heap_alloc _ _ _ (Nat.lt_of_lt_of_le hb ie.hB))⟩
  · have e : W.heap.size = k := by simpa [Value.ownBlock] using e
    exact fun h => by have := ie.zlt k h; omega
/-- What is handed to a round. -/
def LiesG (XS : List SelT) (B : Nat) (i : Nat) (cs : List Value) (W : World) : Prop := ∃ x, XS[i]? = some x ∧ SelAt W B x cs
def encG (cs : List Value) : Array Value := #[.agg cs.toArray]
theorem each_any (A : Option Addr) (n k : Nat) (w : World) :
    Calls Try.prog 18 #[.slice A n k] w fun e w' => e = .returned (.func (.func 20) #[] #[.pointer (some ⟨w.heap.size, 0, none⟩)]) ∧ w' = w.alloc (.cells #[.slice A n k] 40) := by
  go_enter Try.func18, Try.ntmps18
  go_wp2_with fail
  go_ret
  exact ⟨rfl, rfl⟩
set_option maxRecDepth 100000 in
set_option maxHeartbeats 8000000 in
theorem each_in (n : Nat) (hn1 : 1 ≤ n) (B pb : Nat) (l0 : SelL) (A0 : Option Addr) (k0 : Nat) (XS : List SelT) (hXS : XS = gpreL l0) (hN : XS.length ≤ 1099511627776) (hk0 : l0.len ≤ k0)
    (base l : Nat) (J : Nat → (Nat → Prop) → World → Prop) (Jx : Nat → World → Prop) (hJ : ∀ i G G' A B, J i G A → TG base G G' A B → J i G' B)
    (hY : ∀ i x G W, i < XS.length → J i G W → LiesG XS B i x W → YieldAt Fence.wide (n - 1) Try.prog l (encG x) W fun e W' => (e = .returned (.bool true) ∧ ∃ G', J (i + 1) G' W' ∧ RG G G' W W') ∨ (e = .returned (.bool false) ∧ Jx i W'))
    (G0 : Nat → Prop) (W : World) (hbase : base = W.heap.size) (hJ0 : J 0 G0 W) (hE0 : IG B base G0 W) (hbox : W.heap[pb]? = some (.cells #[.slice A0 l0.len k0] 40 (0, 0))) (hS0 : SelsAt W B l0 A0) :
    CallsIn Fence.wide n Try.prog 20 (#[.func (.yield l) #[] #[]] ++ #[.pointer (some ⟨pb, 0, none⟩)]) W fun e W' => (∃ v, e = .returned v) ∧ ((∃ G, J XS.length G W') ∨ ∃ i, i < XS.length ∧ Jx i W') := by
  have HE0 := Lib.hid hE0
  have HS0 := Lib.hid hS0
  have HJ := Lib.hid hJ
  have HY := Lib.hid hY
  have HJ0 := Lib.hid hJ0
  have HXS := Lib.hid hXS
  obtain ⟨i1, z1, hi1, hz10, hz11, hz12, hz13⟩ := gsels_row
  obtain ⟨y0, _⟩ := gcells1 hbox
  have HBX := Lib.hid hbox
  clear hE0 hS0 hJ hY hJ0 hXS hbox
  refine callsIn_wide.2 ?_
  rw [show (#[.func (.yield l) #[] #[]] ++ #[.pointer (some ⟨pb, 0, none⟩)] : Array Value) = #[.func (.yield l) #[] #[], .pointer (some ⟨pb, 0, none⟩)] from rfl]
  go_enter Try.func20, Try.ntmps20
  go_upto_region 1 with fail
  clear y0
  have S1 := Lib.hid (stg_start (G := G0) (B := B) (by rw [← hbase]; exact HE0.out) hk0 HS0.out)
  have T1 := Lib.hid (TG.of_below (base := base) (G := G0) (gnew W (.cells #[.slice A0 l0.len k0] 40)))
  have J1 := Lib.hid (HJ.out _ _ _ _ _ HJ0.out T1.out)
  have I1 := Lib.hid (HE0.out.t T1.out)
  generalize W.alloc (.cells #[.slice A0 l0.len k0] 40) = w1 at S1 J1 I1 T1 ⊢
  rw [← hbase] at S1 ⊢
  clear hbase T1 HJ0 HE0 HS0 HBX
  go_loopg [3] (2 * XS.length + 1) (fun g v wx => Asd (∃ i G stk, i ≤ XS.length ∧ J i G wx ∧ IG B base G wx ∧ STG G wx B base v stk ∧ XS.drop i = leftQ stk ∧ stk.length ≤ i + 1 ∧ 2 * (XS.length - i) + stk.length ≤ g))
  case atStart => exact Asd.intro ⟨0, G0, [l0], Nat.zero_le _, J1.out, I1.out, S1.out, by rw [HXS.out, List.drop_zero]; unfold leftQ; simp, by simp, by simp⟩
  case round =>
    obtain ⟨i, G, stk, hi, hj, hie, hst, hdr, hsl, hms⟩ := hrel.out
    have HJI := Lib.hid hj
    have HIE := Lib.hid hie
    have HDR := Lib.hid hdr
    clear hrel hj hie hdr S1 J1 I1
    rcases List.eq_nil_or_concat stk with rfl | ⟨init, l1, rfl⟩
    · obtain ⟨Ao, co, rfl⟩ := hst.shape
      clear hst
      go_wp2_with fail
      go_end0
      have h1 : XS.length ≤ i := by
        have h := congrArg List.length HDR.out
        rw [List.length_drop, leftQ_nil] at h
        have h : XS.length - i = 0 := h
        omega
      obtain rfl : i = XS.length := by omega
      exact ⟨⟨_, rfl⟩, .inl ⟨G, HJI.out⟩⟩
    · rw [List.concat_eq_append] at hst HDR hsl hms
      have HST := Lib.hid hst
      obtain ⟨g, cp, A, c, rfl, hcp, hbg, hgl, hzg, hcell, hfz, hlc, hpl⟩ := hst.last
      rw [List.length_append, List.length_singleton] at hsl hms
      have HPL := Lib.hid hpl
      clear hst hpl
      have hil : ((init.length : Int) + 1 - 1) = (init.length : Int) := by omega
      rcases l1 with _ | ⟨x, t⟩
      · rw [SelL.len] at hcell hlc
        go_wp2_with fail
        go_roundg (2 * (XS.length - i) + init.length)
        case measure => omega
        case rel =>
          have hd := HDR.out
          rw [leftQ_snoc, gpreL_nil, List.nil_append] at hd
          exact Asd.intro ⟨i, G, init, hi, HJI.out, HIE.out, HST.out.pop, hd, by omega, Nat.le_refl _⟩
      · have hhd := HPL.out.head
        obtain ⟨b, o, Ag, kg, Ad, kd, As, ks, rfl, hb, ⟨f0, f1, f2, f3, f4, f5, f6⟩, hX, hR⟩ := hhd
        have hD := HDR.out
        rw [leftQ_snoc, gpreL_cons, List.cons_append, List.append_assoc] at hD
        have hxi : XS[i]? = some x := by
          have h := congrArg List.head? hD
          rwa [List.head?_drop, List.head?_cons] at h
        have hilt : i < XS.length := (List.getElem?_eq_some_iff.1 hxi).1
        have hD3 : XS.drop (i + 1) = gpreL x.sels ++ (gpreL t ++ leftQ init) := by
          have h := congrArg List.tail hD
          rwa [List.tail_drop, List.tail_cons] at h
        have HD3 := Lib.hid hD3
        have HXI := Lib.hid hxi
        have HX := Lib.hid hX
        have HHD := Lib.hid hR
        rw [SelL.len] at hcell hlc
        obtain ⟨n1, hn1⟩ : ∃ n1, t.len + 1 = n1 := ⟨_, rfl⟩
        rw [hn1] at hcell hlc
        have hp1 : 0 < n1 := by omega
        have hp2 : (0 : Int) < (n1 : Int) := by omega
        have hp3 : ¬ ((n1 : Int) = 0) := by omega
        clear hD hD3 hxi hX hR HPL HDR
        go_upto_region 6 with fail
        clear f0 f1 f2 f3 f4 f5 f6
        have bn := gnew wr (.cells #[.int .i64 x.kind, .string x.als, .string x.name, .slice Ag x.args.len kg, .slice Ad x.dirs.length kd, .string x.on, .slice As x.sels.len ks] 42)
        have t2 := Lib.hid (TG.of_below (base := base) (G := G) bn)
        have hhd : True := trivial
        have hcell := (bn.cell (p := ⟨g, init.length, none⟩) hgl).trans hcell
        have hfz := (World.frozen?_of_block (a := ⟨g, init.length, none⟩) (bn.block g hgl)).trans hfz
        have hbw : B ≤ wr.heap.size := by have h1 := HIE.out.hB; have h2 := HIE.out.hb; omega
        have Y2 := Lib.hid (heap_alloc_new wr (.cells #[.int .i64 x.kind, .string x.als, .string x.name, .slice Ag x.args.len kg, .slice Ad x.dirs.length kd, .string x.on, .slice As x.sels.len ks] 42))
        have J2 := Lib.hid (HJ.out _ _ _ _ _ HJI.out t2.out)
        have I2 := Lib.hid (HIE.out.t t2.out)
        have S2 := Lib.hid (HST.out.below hbw bn)
        have X2 := Lib.hid (SelAt.keep HX.out (Nat.le_refl _) (fun b hb => bn.block b (by omega)))
        have HHD := Lib.hid (HHD.out.below (bn.mono hbw))
        have hzx : ¬ G wr.heap.size := fun h => Nat.lt_irrefl _ (HIE.out.zlt _ h)
        have hgx2 : g < (wr.alloc (.cells #[.int .i64 x.kind, .string x.als, .string x.name, .slice Ag x.args.len kg, .slice Ad x.dirs.length kd, .string x.on, .slice As x.sels.len ks] 42)).heap.size := by simp; omega
        have hsx2 : wr.heap.size < (wr.alloc (.cells #[.int .i64 x.kind, .string x.als, .string x.name, .slice Ag x.args.len kg, .slice Ad x.dirs.length kd, .string x.on, .slice As x.sels.len ks] 42)).heap.size := by simp
        generalize wr.alloc (.cells #[.int .i64 x.kind, .string x.als, .string x.name, .slice Ag x.args.len kg, .slice Ad x.dirs.length kd, .string x.on, .slice As x.sels.len ks] 42) = w2 at t2 hcell hfz Y2 J2 I2 S2 X2 HHD hgx2 hsx2 ⊢
        generalize wr.heap.size = gx at Y2 hzx hgl hsx2 hbw ⊢
        clear bn t2 HIE HJI HST HX hb
        obtain ⟨⟨y0, y1, y2, y3, y4, y5, y6⟩, _⟩ := gcells7 Y2.out
        by_cases hck : c = 1
        · subst hck
          go_upto_region 7 with fail
          have hcut : Hid (∃ A5 c5, Value.slice (some ⟨b, o, none⟩) 0 (0) = .slice A5 t.len c5 ∧ t.len ≤ c5 ∧ SelsAt w2 B t A5) := Lib.hid ⟨(some ⟨b, o, none⟩), 0, by congr 1; omega, by omega, by
            have : t = .nil := by
              cases t with
              | nil => rfl
              | cons y t => rw [SelL.len] at hn1; omega
            subst this
            exact SelsAt.nil _⟩
          generalize Value.slice (some ⟨b, o, none⟩) 0 (0) = sv at hcut ⊢
          obtain ⟨A5, c5, rfl, hc5, hp5⟩ := hcut.out
          have S3 := Lib.hid (S2.out.cut I2.out.hB hc5 hp5)
          have T3 : Hid (TG base G G w2 (w2.setCell ⟨g, init.length, none⟩ (.slice A5 t.len c5))) := Lib.hid ⟨rfl, MoG.set ⟨hbg, hzg⟩ _⟩
          have I3 := Lib.hid (I2.out.t T3.out)
          have J3 := Lib.hid (HJ.out _ _ _ _ _ J2.out T3.out)
          have Y3 := Lib.hid ((Below.heap_setCell w2 ⟨g, init.length, none⟩ (.slice A5 t.len c5) gx (by show gx ≠ g; omega)).trans Y2.out)
          have X3 := Lib.hid (SelAt.keep X2.out (Nat.le_refl _) (fun b hb => Below.heap_setCell w2 ⟨g, init.length, none⟩ (.slice A5 t.len c5) b (by show b ≠ g; have := I2.out.hB; omega)))
          have hs3 : (w2.setCell ⟨g, init.length, none⟩ (.slice A5 t.len c5)).heap.size = w2.heap.size := by simp [World.setCell]
          generalize w2.setCell ⟨g, init.length, none⟩ (.slice A5 t.len c5) = w3 at S3 T3 I3 J3 Y3 X3 hs3 ⊢
          have hg3 : g < w3.heap.size := by omega
          have hx3 : gx < w3.heap.size := by omega
          clear hcut hc5 hp5 S2 J2 I2 Y2 X2 T3 y0 y1 y2 y3 y4 y5 y6 hcell hfz hhd HHD
          obtain ⟨⟨y0, y1, y2, y3, y4, y5, y6⟩, _⟩ := gcells7 Y3.out
          obtain ⟨fn, tmps, assign, body, hy, hR⟩ := HY.out i _ G w3 hilt J3.out ⟨x, HXI.out, X3.out⟩
          have hy : (Instr.yield l #[.agg #[.int .i64 x.kind, .string x.als, .string x.name, .slice Ag x.args.len kg, .slice Ad x.dirs.length kd, .string x.on, .slice As x.sels.len ks]]).run Try.prog w3 = .ok (.round l fn tmps assign body) w3 := hy
          have HRR := Lib.hid hR
          clear hR J3
          refine (wpIn_wide (n := n)).1 ?_
          gi_wp2
          refine HRR.out.mono ?_
          rintro e W' (⟨rfl, G2, hj3, hr3⟩ | ⟨rfl, hjx⟩)
          · gi_wp2
            have HJ4 := Lib.hid hj3
            have I4 := Lib.hid (I3.out.r hr3)
            have S4 := Lib.hid (S3.out.r I3.out hr3)
            have Y4 := Lib.hid ((hr3.mo.block gx hx3 hzx).trans Y3.out)
            have X4 := Lib.hid (SelAt.keep X3.out (Nat.le_refl _) (fun b hb => hr3.mo.block b (by have := I3.out.hB; have := I3.out.hb; omega) (I3.out.zB b hb)))
            clear hj3 hr3 S3 I3 Y3 X3 hy HRR y0 y1 y2 y3 y4 y5 y6
            obtain ⟨⟨y0, y1, y2, y3, y4, y5, y6⟩, _⟩ := gcells7 Y4.out
            obtain ⟨_, _, _, _, As', ks', ee, _, hks, hsa, _⟩ := X4.out
            simp only [List.cons.injEq, Value.slice.injEq, and_true, true_and] at ee
            obtain ⟨_, _, rfl, rfl⟩ := ee
            have HKS := Lib.hid hks
            have HSA := Lib.hid hsa
            obtain ⟨vs, hown, hvs, hzz⟩ := S4.out
            have hzg4 : ¬ G2 g := hzz g rfl
            rw [List.length_append, List.length_singleton] at hown
            have HOW := Lib.hid hown
            have HVS := Lib.hid hvs
            clear hown hvs hzz hks hsa S4 X4
            have hb4 : base ≤ W'.heap.size := I4.out.hb
            go_wp2_with (at_builtin; go_loud (refine wpList_append_lies _ rfl _ _ 76 rfl base 40 i1 z1 1 24 Try.underlying76 hi1 hz10 hz11 hz12 hz13 (by decide) _ (init.length + 1) vs rfl (HOW.out.alloc _) _ 1 1 [.slice As x.sels.len ks] rfl rfl (gone_news _ _ _ (by first | rfl | (simp; done))) (by intro y hy; simp at hy; subst hy; rfl) (by decide) (by unfold maxLen; omega) (by omega) (by simp; omega) _ rfl ?_; intro g6 cap6 W6 hown6 hgrow hat hlt6; have HG6 := Lib.hid hgrow; have HO6 := Lib.hid hown6; have HT6 := Lib.hid hat; clear hgrow hown6 hat))
            go_roundg (2 * (XS.length - (i + 1)) + init.length + 2)
            case measure => omega
            case rel =>
              have hln : (init ++ [t]).length = init.length + 1 := by simp
              have P6 := STG.push (G := G2) (stk := init ++ [t]) (L := x.sels) (c6 := ks) (A6 := As) (vs := vs) (g := g) (g6 := g6) (cap6 := cap6) (cp := cp) I4.out (by rw [hln]; exact HOW.out) HVS.out hzg4 HKS.out HSA.out (by rw [hln]; exact HO6.out) HG6.out HT6.out
              rw [hln] at P6
              refine Asd.intro ⟨i + 1, G2, init ++ [t] ++ [x.sels], hilt, HJ.out _ _ _ _ _ HJ4.out P6.2, I4.out.t P6.2, P6.1, ?_, by simp; omega, by simp; omega⟩
              rw [HD3.out, leftQ_snoc, leftQ_snoc]
          · gi_wp2
            go_wp2_with fail
            refine bodyPost_ret (results_none rfl _ _ _) rfl ?_
            exact ⟨⟨_, rfl⟩, .inr ⟨i, hilt, hjx⟩⟩
        · have hck2 : 1 < c := by omega
          go_upto_region 7 with fail
          have hcut : Hid (∃ A5 c5, Value.slice (some ⟨b, o + 7, none⟩) (n1 - 1) (c - 1) = .slice A5 t.len c5 ∧ t.len ≤ c5 ∧ SelsAt w2 B t A5) := Lib.hid ⟨(some ⟨b, o + 7, none⟩), c - 1, by congr 1; omega, by omega, HHD.out⟩
          generalize Value.slice (some ⟨b, o + 7, none⟩) (n1 - 1) (c - 1) = sv at hcut ⊢
          obtain ⟨A5, c5, rfl, hc5, hp5⟩ := hcut.out
          have S3 := Lib.hid (S2.out.cut I2.out.hB hc5 hp5)
          have T3 : Hid (TG base G G w2 (w2.setCell ⟨g, init.length, none⟩ (.slice A5 t.len c5))) := Lib.hid ⟨rfl, MoG.set ⟨hbg, hzg⟩ _⟩
          have I3 := Lib.hid (I2.out.t T3.out)
          have J3 := Lib.hid (HJ.out _ _ _ _ _ J2.out T3.out)
          have Y3 := Lib.hid ((Below.heap_setCell w2 ⟨g, init.length, none⟩ (.slice A5 t.len c5) gx (by show gx ≠ g; omega)).trans Y2.out)
          have X3 := Lib.hid (SelAt.keep X2.out (Nat.le_refl _) (fun b hb => Below.heap_setCell w2 ⟨g, init.length, none⟩ (.slice A5 t.len c5) b (by show b ≠ g; have := I2.out.hB; omega)))
          have hs3 : (w2.setCell ⟨g, init.length, none⟩ (.slice A5 t.len c5)).heap.size = w2.heap.size := by simp [World.setCell]
          generalize w2.setCell ⟨g, init.length, none⟩ (.slice A5 t.len c5) = w3 at S3 T3 I3 J3 Y3 X3 hs3 ⊢
          have hg3 : g < w3.heap.size := by omega
          have hx3 : gx < w3.heap.size := by omega
          clear hcut hc5 hp5 S2 J2 I2 Y2 X2 T3 y0 y1 y2 y3 y4 y5 y6 hcell hfz hhd HHD
          obtain ⟨⟨y0, y1, y2, y3, y4, y5, y6⟩, _⟩ := gcells7 Y3.out
          obtain ⟨fn, tmps, assign, body, hy, hR⟩ := HY.out i _ G w3 hilt J3.out ⟨x, HXI.out, X3.out⟩
          have hy : (Instr.yield l #[.agg #[.int .i64 x.kind, .string x.als, .string x.name, .slice Ag x.args.len kg, .slice Ad x.dirs.length kd, .string x.on, .slice As x.sels.len ks]]).run Try.prog w3 = .ok (.round l fn tmps assign body) w3 := hy
          have HRR := Lib.hid hR
          clear hR J3
          refine (wpIn_wide (n := n)).1 ?_
          gi_wp2
          refine HRR.out.mono ?_
          rintro e W' (⟨rfl, G2, hj3, hr3⟩ | ⟨rfl, hjx⟩)
          · gi_wp2
            have HJ4 := Lib.hid hj3
            have I4 := Lib.hid (I3.out.r hr3)
            have S4 := Lib.hid (S3.out.r I3.out hr3)
            have Y4 := Lib.hid ((hr3.mo.block gx hx3 hzx).trans Y3.out)
            have X4 := Lib.hid (SelAt.keep X3.out (Nat.le_refl _) (fun b hb => hr3.mo.block b (by have := I3.out.hB; have := I3.out.hb; omega) (I3.out.zB b hb)))
            clear hj3 hr3 S3 I3 Y3 X3 hy HRR y0 y1 y2 y3 y4 y5 y6
            obtain ⟨⟨y0, y1, y2, y3, y4, y5, y6⟩, _⟩ := gcells7 Y4.out
            obtain ⟨_, _, _, _, As', ks', ee, _, hks, hsa, _⟩ := X4.out
            simp only [List.cons.injEq, Value.slice.injEq, and_true, true_and] at ee
            obtain ⟨_, _, rfl, rfl⟩ := ee
            have HKS := Lib.hid hks
            have HSA := Lib.hid hsa
            obtain ⟨vs, hown, hvs, hzz⟩ := S4.out
            have hzg4 : ¬ G2 g := hzz g rfl
            rw [List.length_append, List.length_singleton] at hown
            have HOW := Lib.hid hown
            have HVS := Lib.hid hvs
            clear hown hvs hzz hks hsa S4 X4
            have hb4 : base ≤ W'.heap.size := I4.out.hb
            go_wp2_with (at_builtin; go_loud (refine wpList_append_lies _ rfl _ _ 76 rfl base 40 i1 z1 1 24 Try.underlying76 hi1 hz10 hz11 hz12 hz13 (by decide) _ (init.length + 1) vs rfl (HOW.out.alloc _) _ 1 1 [.slice As x.sels.len ks] rfl rfl (gone_news _ _ _ (by first | rfl | (simp; done))) (by intro y hy; simp at hy; subst hy; rfl) (by decide) (by unfold maxLen; omega) (by omega) (by simp; omega) _ rfl ?_; intro g6 cap6 W6 hown6 hgrow hat hlt6; have HG6 := Lib.hid hgrow; have HO6 := Lib.hid hown6; have HT6 := Lib.hid hat; clear hgrow hown6 hat))
            go_roundg (2 * (XS.length - (i + 1)) + init.length + 2)
            case measure => omega
            case rel =>
              have hln : (init ++ [t]).length = init.length + 1 := by simp
              have P6 := STG.push (G := G2) (stk := init ++ [t]) (L := x.sels) (c6 := ks) (A6 := As) (vs := vs) (g := g) (g6 := g6) (cap6 := cap6) (cp := cp) I4.out (by rw [hln]; exact HOW.out) HVS.out hzg4 HKS.out HSA.out (by rw [hln]; exact HO6.out) HG6.out HT6.out
              rw [hln] at P6
              refine Asd.intro ⟨i + 1, G2, init ++ [t] ++ [x.sels], hilt, HJ.out _ _ _ _ _ HJ4.out P6.2, I4.out.t P6.2, P6.1, ?_, by simp; omega, by simp; omega⟩
              rw [HD3.out, leftQ_snoc, leftQ_snoc]
          · gi_wp2
            go_wp2_with fail
            refine bodyPost_ret (results_none rfl _ _ _) rfl ?_
            exact ⟨⟨_, rfl⟩, .inr ⟨i, hilt, hjx⟩⟩
end Go.Proofs.Ytgihnhdknphhpaa
