/- What the places' iterator holds while it goes on. -/
import Derived.Test.YtmamgaifpjgfkaaGreatDoorLtWithin
namespace Go.Proofs.YtmamgaifpjgfkaaGreatDoor
open Go.RowKit

mutual
def szV : VT → Nat
  | .mk _ _ _ l m => 1 + szL l + szM m
def szL : VL → Nat
  | .nil => 0
  | .cons v t => szV v + szL t
def szM : VM → Nat
  | .nil => 0
  | .cons _ v t => szV v + szM t
end
theorem szL_mem : ∀ {l : VL} {x : VT}, x ∈ l.list → szV x ≤ szL l
  | .nil, x, h => by simp [VL.list] at h
  | .cons v t, x, h => by
    rw [VL.list] at h
    rw [szL]
    rcases List.mem_cons.1 h with rfl | h
    · omega
    · have := szL_mem h
      omega
theorem szM_mem : ∀ {l : VM} {x : ByteArray × VT}, x ∈ l.list → szV x.2 ≤ szM l
  | .nil, x, h => by simp [VM.list] at h
  | .cons n v t, x, h => by
    rw [VM.list] at h
    rw [szM]
    rcases List.mem_cons.1 h with rfl | h
    · show szV v ≤ szV v + szM t; omega
    · have := szM_mem h
      omega
def msr (p : PlT) : Nat := szV p.v * 8 + (if itemB p.tn p.tl p.tm = true then p.tl.toNat else 0)
theorem item_lists {n : ByteArray} {l m : Int} (h : itemB n l m = true) : 1 ≤ l ∧ l ≤ 4 := by
  unfold itemB at h
  rw [Bool.and_eq_true, decide_eq_true_eq] at h
  have := right_small h.1
  omega
theorem msr_lt {p : PlT} {k : Nat} (h : szV p.v < k) : msr p < k * 8 := by
  unfold msr
  split
  · rename_i h1
    have := item_lists h1
    omega
  · omega
theorem msr_ge (p : PlT) : szV p.v * 8 ≤ msr p := by unfold msr; omega
theorem within_msr {D : List DefnT} {p x : PlT} (h : x ∈ withinL D p) : msr x < msr p := by
  unfold withinL at h
  split at h
  · simp at h
  · split at h
    · rename_i hi
      split at h
      · unfold elemsL at h
        obtain ⟨v, hv, rfl⟩ := List.mem_map.1 h
        have h1 := szL_mem hv
        obtain ⟨tn, tl, tm, hs, k, n, s, l, m⟩ := p
        have h2 : szV (.mk k n s l m) = 1 + szL l + szM m := by rw [szV]
        have := msr_ge ⟨tn, tl, tm, hs, .mk k n s l m⟩
        have := msr_lt (p := ⟨tn, tl - 1, tm / 2, false, v⟩) (k := szL l + 1) (by show szV v < szL l + 1; have h1 : szV v ≤ szL l := h1; omega)
        have h3 : msr ⟨tn, tl, tm, hs, .mk k n s l m⟩ ≥ szV (.mk k n s l m) * 8 := msr_ge ⟨tn, tl, tm, hs, .mk k n s l m⟩
        show msr ⟨tn, tl - 1, tm / 2, false, v⟩ < msr ⟨tn, tl, tm, hs, .mk k n s l m⟩
        omega
      · obtain rfl : x = _ := by simpa using h
        have h1 := item_lists hi
        unfold msr
        rw [if_pos hi]
        dsimp only
        split
        · omega
        · omega
    · split at h
      · unfold memsL at h
        obtain ⟨y, hy, hx⟩ := List.mem_flatMap.1 h
        have h1 := szM_mem hy
        split at hx
        · obtain rfl : x = _ := by simpa using hx
          obtain ⟨tn, tl, tm, hs, k, n, s, l, m⟩ := p
          have h2 : szV (.mk k n s l m) = 1 + szL l + szM m := by rw [szV]
          have h1 : szV y.2 ≤ szM m := h1
          have h3 : msr ⟨tn, tl, tm, hs, .mk k n s l m⟩ ≥ szV (.mk k n s l m) * 8 := msr_ge ⟨tn, tl, tm, hs, .mk k n s l m⟩
          have h4 := msr_lt (p := ⟨(paramD (findD D tn).1.params y.1).1.tn, (paramD (findD D tn).1.params y.1).1.tl, (paramD (findD D tn).1.params y.1).1.tm, (paramD (findD D tn).1.params y.1).1.has, y.2⟩) (k := szM m + 1) (by show szV y.2 < szM m + 1; omega)
          refine Nat.lt_of_lt_of_le h4 ?_
          show (szM m + 1) * 8 ≤ msr ⟨tn, tl, tm, hs, .mk k n s l m⟩
          omega
        · simp at hx
      · simp at h
def placesF (D : List DefnT) : Nat → PlT → List PlT
  | 0, p => [p]
  | f + 1, p => p :: (withinL D p).flatMap (placesF D f)
theorem placesF_more {D : List DefnT} : ∀ (f g : Nat) (p : PlT), msr p ≤ f → msr p ≤ g → placesF D f p = placesF D g p
  | 0, 0, _, _, _ => rfl
  | 0, g + 1, p, h, _ => by
    have : withinL D p = [] := by
      rw [List.eq_nil_iff_forall_not_mem]
      intro x hx
      have := within_msr hx
      omega
    rw [placesF, placesF, this]
    rfl
  | f + 1, 0, p, _, h => by
    have : withinL D p = [] := by
      rw [List.eq_nil_iff_forall_not_mem]
      intro x hx
      have := within_msr hx
      omega
    rw [placesF, placesF, this]
    rfl
  | f + 1, g + 1, p, h1, h2 => by
    rw [placesF, placesF]
    congr 1
    have hh : ∀ l : List PlT, (∀ x, x ∈ l → msr x < msr p) → l.flatMap (placesF D f) = l.flatMap (placesF D g) := by
      intro l
      induction l with
      | nil => intro _; rfl
      | cons a t ih =>
        intro h
        rw [List.flatMap_cons, List.flatMap_cons, ih (fun x hx => h x (List.mem_cons_of_mem _ hx)), placesF_more f g a (by have := h a (List.mem_cons_self ..); omega) (by have := h a (List.mem_cons_self ..); omega)]
    exact hh _ (fun x hx => within_msr hx)
def allP (D : List DefnT) (p : PlT) : List PlT := placesF D (msr p) p
theorem allP_eq (D : List DefnT) (p : PlT) : allP D p = p :: (withinL D p).flatMap (allP D) := by
  unfold allP
  rw [placesF_more (msr p) (msr p + 1) p (Nat.le_refl _) (Nat.le_succ _), placesF]
  congr 1
  have hh : ∀ l : List PlT, (∀ x, x ∈ l → msr x < msr p) → l.flatMap (placesF D (msr p)) = l.flatMap (fun x => placesF D (msr x) x) := by
    intro l
    induction l with
    | nil => intro _; rfl
    | cons a t ih =>
      intro h
      rw [List.flatMap_cons, List.flatMap_cons, ih (fun x hx => h x (List.mem_cons_of_mem _ hx)), placesF_more (msr p) (msr a) a (by have := h a (List.mem_cons_self ..); omega) (Nat.le_refl _)]
  exact hh _ (fun x hx => within_msr hx)
/-- What is left: the innermost list first. -/
def leftP (D : List DefnT) (stk : List (List PlT)) : List PlT := stk.reverse.flatMap fun l => l.flatMap (allP D)
theorem leftP_snoc (D : List DefnT) (stk : List (List PlT)) (l : List PlT) : leftP D (stk ++ [l]) = l.flatMap (allP D) ++ leftP D stk := by
  unfold leftP
  rw [List.reverse_append]
  rfl
theorem left_cons (D : List DefnT) (x : PlT) (l : List PlT) : (x :: l).flatMap (allP D) = x :: ((withinL D x).flatMap (allP D) ++ l.flatMap (allP D)) := by
  rw [List.flatMap_cons, allP_eq]
  rfl
end Go.Proofs.YtmamgaifpjgfkaaGreatDoor
namespace Go.Proofs.YtmamgaifpjgfkaaGreatDoor
open Go.RowKit

/-- The cache with its footprint. -/
structure MOU (D : List DefnT) (U : Nat → Prop) (KS : List ByteArray) (M : Nat) (W : World) : Prop where
  ok : MOK D (fun b => ¬ U b) KS M W
  lt : ∀ b, U b → b < W.heap.size
  no : ¬ U M
theorem MOK.turn {D : List DefnT} {X X' : Nat → Prop} {KS : List ByteArray} {M : Nat} {W : World} (h : MOK D X KS M W) (hX : ∀ b, b < W.heap.size → X' b → X b) : MOK D X' KS M W := by
  obtain ⟨ents, m, h1, h2, h3, h4, h5⟩ := h
  refine ⟨ents, m, h1, h2, h3, h4, fun s => (h5 s).imp_right ?_⟩
  rintro ⟨e1, c0, c1, c2, c3, c4, c5, e2, e3⟩
  exact ⟨e1, c0, c1, c2, c3, c4, c5, e2, TS.keep (fun b hx => ⟨⟨hx.1, fun h => hx.2 (hX b hx.1 h)⟩, rfl⟩) _ _ e3⟩
/-- As the functions of the cache want it. -/
def XU (U : Nat → Prop) (W : World) : Nat → Prop := fun b => b < W.heap.size ∧ ¬ U b
theorem MOU.xu {D : List DefnT} {U : Nat → Prop} {KS : List ByteArray} {M : Nat} {W : World} (h : MOU D U KS M W) : MOK D (XU U W) KS M W := h.ok.turn (fun _ _ hx => hx.2)
/-- The footprint behind a function of the cache: what is new below K. -/
def U3 (U : Nat → Prop) (W : World) (K : Nat) : Nat → Prop := fun b => b < K ∧ (U b ∨ W.heap.size ≤ b)
theorem MOU.of_xu {D : List DefnT} {U : Nat → Prop} {KS : List ByteArray} {M K : Nat} {W W' : World} (h : MOU D U KS M W) (hk : MOK D (fun b => XU U W b ∨ K ≤ b) KS M W') (hK : K ≤ W'.heap.size) : MOU D (U3 U W K) KS M W' := by
  refine ⟨hk.turn (fun b hb hn => ?_), fun b hb => Nat.lt_of_lt_of_le hb.1 hK, fun hb => ?_⟩
  · rcases Nat.lt_or_ge b K with hl | hl
    · rcases Nat.lt_or_ge b W.heap.size with h2 | h2
      · exact .inl ⟨h2, fun hu => hn ⟨hl, .inl hu⟩⟩
      · exact absurd ⟨hl, .inr h2⟩ hn
    · exact .inr hl
  · rcases hb.2 with hu | hu
    · exact h.no hu
    · have := h.ok.lt
      omega
theorem MOU.keep {D : List DefnT} {U : Nat → Prop} {KS : List ByteArray} {M : Nat} {W W' : World} (h : MOU D U KS M W) (hs : W.heap.size ≤ W'.heap.size) (hM : W'.heap[M]? = W.heap[M]?) (hb : ∀ b, U b → W'.heap[b]? = W.heap[b]?) : MOU D U KS M W' :=
  ⟨h.ok.keep hs hM (fun b _ hn => hb b (Classical.byContradiction hn)), fun b hu => Nat.lt_of_lt_of_le (h.lt b hu) hs, h.no⟩
/-- All blocks stand but those of X. -/
structure MoZ (X : Nat → Prop) (w w' : World) : Prop where
  os : w'.os = w.os
  tape : w'.tape = w.tape
  output : w'.output = w.output
  size : w.heap.size ≤ w'.heap.size
  block : ∀ b, b < w.heap.size → ¬ X b → w'.heap[b]? = w.heap[b]?
theorem MoZ.trans {X : Nat → Prop} {a b c : World} (h : MoZ X a b) (k : MoZ X b c) : MoZ X a c :=
  ⟨k.os.trans h.os, k.tape.trans h.tape, k.output.trans h.output, Nat.le_trans h.size k.size, fun i h1 h2 => (k.block i (Nat.lt_of_lt_of_le h1 h.size) h2).trans (h.block i h1 h2)⟩
theorem MoZ.of_mo {M : Nat} {X : Nat → Prop} {a b : World} (h : MoX M a b) (hM : X M) : MoZ X a b := ⟨h.os, h.tape, h.output, h.size, fun i h1 h2 => h.block i h1 (fun e => h2 (e ▸ hM))⟩
/-- What the caller has: the blocks that its rounds write, the cache's footprint. -/
abbrev Gh := (Nat → Prop) × (Nat → Prop)
/-- The iterator's own steps: what lies below base stands, but the cache; so do the caller's blocks. -/
structure TZ (D : List DefnT) (KS : List ByteArray) (M base : Nat) (G G' : Gh) (A B : World) : Prop where
  z : G'.1 = G.1
  mo : MoZ (fun b => b = M ∨ (base ≤ b ∧ ¬ G.1 b)) A B
  ok : MOU D G.2 KS M A → MOU D G'.2 KS M B
  u : ∀ b, G'.2 b → G.2 b ∨ A.heap.size ≤ b
  um : ∀ b, G.2 b → G'.2 b
/-- What a round leaves. -/
structure RZ (D : List DefnT) (KS : List ByteArray) (M : Nat) (G G' : Gh) (A B : World) : Prop where
  mo : MoZ (fun b => b = M ∨ G.1 b) A B
  ok : MOU D G.2 KS M A → MOU D G'.2 KS M B
  u : ∀ b, G'.2 b → G.2 b ∨ A.heap.size ≤ b
  um : ∀ b, G.2 b → G'.2 b
  old : ∀ b, b < A.heap.size → G'.1 b → G.1 b
  lt : ∀ b, G'.1 b → b < B.heap.size
  zu : ∀ b, G'.1 b → ¬ G'.2 b
/-- The iterator's surroundings: its two boxes, the cache, the schema. -/
structure IE (S : SchT) (KS : List ByteArray) (M B pb sb base : Nat) (c0 c1 c2 : Value) (pcs : Array Value) (G : Gh) (W : World) : Prop where
  zlt : ∀ b, G.1 b → b < W.heap.size
  zB : ∀ b, b < B → ¬ G.1 b
  zu : ∀ b, G.1 b → ¬ G.2 b
  uB : ∀ b, b < B → G.2 b
  zp : ¬ G.1 pb ∧ pb ≠ M ∧ pb < base
  zs : ¬ G.1 sb ∧ sb ≠ M ∧ sb < base
  hB : B ≤ M
  hMb : M < base
  hbase : base ≤ W.heap.size
  ok : MOU S.defs G.2 KS M W
  pbox : W.heap[pb]? = some (.cells pcs 66 (0, 0))
  sbox : W.heap[sb]? = some (.cells #[c0, c1, c2, .map (some M)] 62 (0, 0))
  sch : TS W (fun b => b < B) (encSch S) [c0, c1, c2]
section
variable {S : SchT} {KS : List ByteArray} {M B pb sb base : Nat} {c0 c1 c2 : Value} {pcs : Array Value} {G G' : Gh} {W W' : World}
theorem IE.t (h : IE S KS M B pb sb base c0 c1 c2 pcs G W) (ht : TZ S.defs KS M base G G' W W') : IE S KS M B pb sb base c0 c1 c2 pcs G' W' := by
  have hs := ht.mo.size
  have hM := h.hMb
  have hb := h.hbase
  have hBM := h.hB
  have hp := h.zp.2
  have hq := h.zs.2
  have e := ht.z
  refine ⟨fun b hz => ?_, fun b hb => ?_, fun b hz hu => ?_, fun b hb => ht.um b (h.uB b hb), ⟨?_, h.zp.2⟩, ⟨?_, h.zs.2⟩, h.hB, h.hMb, Nat.le_trans h.hbase hs, ht.ok h.ok, (ht.mo.block _ (by omega) (fun e => ?_)).trans h.pbox, (ht.mo.block _ (by omega) (fun e => ?_)).trans h.sbox, TS.keep (fun b hlt => ⟨hlt, ht.mo.block b (by omega) (fun e => by omega)⟩) _ _ h.sch⟩
  · rw [e] at hz; exact Nat.lt_of_lt_of_le (h.zlt b hz) hs
  · rw [e]; exact h.zB b hb
  · rw [e] at hz
    rcases ht.u b hu with h1 | h1
    · exact h.zu b hz h1
    · have := h.zlt b hz; omega
  · rw [e]; exact h.zp.1
  · rw [e]; exact h.zs.1
  · omega
  · omega
theorem IE.r (h : IE S KS M B pb sb base c0 c1 c2 pcs G W) (hr : RZ S.defs KS M G G' W W') : IE S KS M B pb sb base c0 c1 c2 pcs G' W' := by
  have hs := hr.mo.size
  have hM := h.hMb
  have hb := h.hbase
  have hBM := h.hB
  have hp := h.zp.2
  have hq := h.zs.2
  exact ⟨hr.lt, fun b hb' hz => h.zB b hb' (hr.old b (by omega) hz), hr.zu, fun b hb => hr.um b (h.uB b hb), ⟨fun hz => h.zp.1 (hr.old _ (by omega) hz), h.zp.2⟩, ⟨fun hz => h.zs.1 (hr.old _ (by omega) hz), h.zs.2⟩, h.hB, h.hMb, Nat.le_trans h.hbase hs, hr.ok h.ok,
    (hr.mo.block _ (by omega) (fun e => e.elim h.zp.2.1 h.zp.1)).trans h.pbox, (hr.mo.block _ (by omega) (fun e => e.elim h.zs.2.1 h.zs.1)).trans h.sbox,
    TS.keep (fun b hlt => ⟨hlt, hr.mo.block b (by omega) (fun e => e.elim (by omega) (h.zB b hlt))⟩) _ _ h.sch⟩
theorem TZ.of_below (hl : ∀ b, G.2 b → b < W.heap.size) (hM : M < W.heap.size) (h : Below W.heap.size W W') : TZ S.defs KS M base G G W W' :=
  ⟨rfl, ⟨h.os, h.tape, h.output, h.size, fun b hb _ => h.block b hb⟩, fun k => k.keep h.size (h.block M hM) (fun b hu => h.block b (hl b hu)), fun _ h => .inl h, fun _ h => h⟩
theorem TZ.of_mo {K : Nat} (h : MoX M W W') (ho : MOU S.defs G.2 KS M W) (hk : MOK S.defs (fun b => XU G.2 W b ∨ K ≤ b) KS M W') (hK1 : W.heap.size ≤ K) (hK2 : K ≤ W'.heap.size) : TZ S.defs KS M base G (G.1, U3 G.2 W K) W W' :=
  ⟨rfl, ⟨h.os, h.tape, h.output, h.size, fun b hb hn => h.block b hb (fun e => hn (.inl e))⟩, fun _ => ho.of_xu hk hK2, fun _ h => h.2, fun b hu => ⟨Nat.lt_of_lt_of_le (ho.lt b hu) hK1, .inl hu⟩⟩
/-- Places in a row that no round turns. -/
def PlsZ (G : Gh) (W : World) (B base : Nat) (own : Option Nat) (l : List PlT) (A : Option Addr) : Prop := PlsAt W B base l A ∧ (l ≠ [] → ∀ g o, A = some ⟨g, o, none⟩ → ¬ G.1 g ∧ ¬ G.2 g ∧ own ≠ some g)
theorem PlsZ.at {own : Option Nat} {l : List PlT} {A : Option Addr} (h : PlsZ G W B base own l A) {j : Nat} {x : PlT} (hx : l[j]? = some x) : ∃ g o cs, A = some ⟨g, o, none⟩ ∧ (base ≤ g ∧ g < W.heap.size ∧ ¬ G.1 g ∧ ¬ G.2 g ∧ own ≠ some g) ∧ TS W (fun b => b < B) (encPl x) cs ∧ ∀ (i : Nat) u, cs[i]? = some u → W.cell? ⟨g, o + j * 9 + i, none⟩ = some u := by
  obtain ⟨g, o, cs, h1, h2, h3, h4, h5⟩ := h.1 j x hx
  have h6 := h.2 (fun e => by rw [e] at hx; simp at hx) g o h1
  exact ⟨g, o, cs, h1, ⟨h2, h3, h6⟩, h4, h5⟩
theorem PlsZ.blk {own own' : Option Nat} {l : List PlT} {A : Option Addr} (h : PlsZ G W B base own l A) (hs : W.heap.size ≤ W'.heap.size) (hB : ∀ b, b < B → W'.heap[b]? = W.heap[b]?) (hb : ∀ b, base ≤ b → b < W.heap.size → ¬ G.1 b → ¬ G.2 b → own ≠ some b → W'.heap[b]? = W.heap[b]?) (hz : ∀ b, b < W.heap.size → ¬ G.1 b → ¬ G.2 b → own ≠ some b → ¬ G'.1 b ∧ ¬ G'.2 b ∧ own' ≠ some b) : PlsZ G' W' B base own' l A := by
  refine ⟨fun j x hx => ?_, fun hl g o e => ?_⟩
  · obtain ⟨g, o, cs, h1, ⟨h2, h3, h6, h7, h8⟩, h4, h5⟩ := h.at hx
    exact ⟨g, o, cs, h1, h2, Nat.lt_of_lt_of_le h3 hs, TS.keep (fun b hlt => ⟨hlt, hB b hlt⟩) _ _ h4, fun i u hu => (World.cell?_of_block (a := ⟨g, _, none⟩) (hb g h2 h3 h6 h7 h8)).trans (h5 i u hu)⟩
  · obtain ⟨x, hx⟩ := List.exists_mem_of_ne_nil l hl
    obtain ⟨j, hj⟩ := List.mem_iff_getElem?.1 hx
    obtain ⟨g', o', cs, h1, ⟨h2, h3, h6, h7, h8⟩, _⟩ := h.at hj
    rw [h1] at e
    have e := Option.some.inj e
    injection e with e1 e2 _
    subst e1
    exact hz _ h3 h6 h7 h8
/-- The stack. -/
def STK (G : Gh) (W : World) (B base : Nat) (V : Value) (stk : List (List PlT)) : Prop :=
  ∃ vs : List Value, W.ownsRow base 96 1 V stk.length vs ∧ (∀ (j : Nat) l, stk[j]? = some l → ∃ A c, vs[j]? = some (.slice A l.length c) ∧ l.length ≤ c ∧ PlsZ G W B base V.ownBlock l A) ∧ ∀ k, V.ownBlock = some k → ¬ G.1 k ∧ ¬ G.2 k
theorem own_one {base : Nat} {w w' : World} {e : TypeId} {k m : Nat} {v : Value} {xs : List Value} (h : w.ownsRow base e k v m xs) (hb : ∀ b, v.ownBlock = some b → w'.heap[b]? = w.heap[b]?) : w'.ownsRow base e k v m xs := by
  obtain ⟨h1, h2⟩ := h
  refine ⟨h1, h2.imp_right ?_⟩
  rintro ⟨g, cap, cur, h3, h4, h5, h6⟩
  exact ⟨g, cap, cur, h3, h4, (hb g (by rw [h3]; rfl)).trans h5, h6⟩
theorem STK.blk {V : Value} {stk : List (List PlT)} (h : STK G W B base V stk) (hs : W.heap.size ≤ W'.heap.size) (hB : ∀ b, b < B → W'.heap[b]? = W.heap[b]?) (hb : ∀ b, base ≤ b → b < W.heap.size → ¬ G.1 b → ¬ G.2 b → W'.heap[b]? = W.heap[b]?) (hz : ∀ b, b < W.heap.size → ¬ G.1 b → ¬ G.2 b → ¬ G'.1 b ∧ ¬ G'.2 b) : STK G' W' B base V stk := by
  obtain ⟨vs, h1, h2, h3⟩ := h
  refine ⟨vs, own_one h1 (fun b e => hb b (h1.lt b e).1 (h1.lt b e).2 (h3 b e).1 (h3 b e).2), fun j l hj => ?_, fun k e => hz k (h1.lt k e).2 (h3 k e).1 (h3 k e).2⟩
  obtain ⟨A, c, g1, g2, g3⟩ := h2 j l hj
  exact ⟨A, c, g1, g2, g3.blk hs hB (fun b p1 p2 p3 p4 _ => hb b p1 p2 p3 p4) (fun b p1 p2 p3 p4 => ⟨(hz b p1 p2 p3).1, (hz b p1 p2 p3).2, p4⟩)⟩
theorem STK.below {V : Value} {stk : List (List PlT)} (h : STK G W B base V stk) (hBW : B ≤ W.heap.size) (hb : Below W.heap.size W W') : STK G W' B base V stk :=
  h.blk hb.size (fun b h1 => hb.block b (by omega)) (fun b _ h2 _ _ => hb.block b h2) (fun _ _ h1 h2 => ⟨h1, h2⟩)
theorem STK.mo {V : Value} {stk : List (List PlT)} (h : STK G W B base V stk) (ie : IE S KS M B pb sb base c0 c1 c2 pcs G W) (hm : MoX M W W') (K : Nat) : STK (G.1, U3 G.2 W K) W' B base V stk := by
  have hM := ie.hMb
  have hBM := ie.hB
  have hb := ie.hbase
  exact h.blk hm.size (fun b h1 => hm.block b (by omega) (by omega)) (fun b h1 h2 _ _ => hm.block b h2 (by omega)) (fun b h0 h1 h2 => ⟨h1, fun hu => hu.2.elim h2 (by omega)⟩)
theorem STK.r {V : Value} {stk : List (List PlT)} (h : STK G W B base V stk) (ie : IE S KS M B pb sb base c0 c1 c2 pcs G W) (hr : RZ S.defs KS M G G' W W') : STK G' W' B base V stk := by
  have hM := ie.hMb
  have hBM := ie.hB
  have hb := ie.hbase
  refine h.blk hr.mo.size (fun b h1 => hr.mo.block b (by omega) (fun e => ?_)) (fun b h1 h2 h3 _ => hr.mo.block b h2 (fun e => ?_)) (fun b h0 h1 h2 => ⟨fun hz => h1 (hr.old b h0 hz), fun hu => (hr.u b hu).elim h2 (by omega)⟩)
  · rcases e with e | e
    · omega
    · exact ie.zB b h1 e
  · rcases e with e | e
    · omega
    · exact h3 e
end
end Go.Proofs.YtmamgaifpjgfkaaGreatDoor
