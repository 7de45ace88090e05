/- The walks of value.named and value.within. -/
import Derived.Test.YtcfdfgbobnocnaaGreatDoorLtIter
import Derived.Test.YtcfdfgbobnocnaaGreatDoorVTok
import Derived.Test.YtcfdfgbobnocnaaGreatDoorVOpen
import Derived.Test.YtcfdfgbobnocnaaGreatDoorVShelf
import Derived.Deep.LoopGhost
import Derived.Deep.RegionHeld3
namespace Go.Proofs.YtcfdfgbobnocnaaGreatDoor
open Go.RowKit

/-- The iterator's surroundings, as the caller sees them. -/
structure IJ (S : SchT) (KS : List ByteArray) (M B pb sb base d : Nat) (c0 c1 c2 : Value) (pcs : Array Value) (G : Gh) (W : World) : Prop where
  ie : IE S KS M B pb sb base c0 c1 c2 pcs G W
  ur : ∀ b, G.2 b → b < B ∨ base ≤ b
  zd : G.1 d
section
variable {S : SchT} {KS : List ByteArray} {M B pb sb base d : Nat} {c0 c1 c2 : Value} {pcs : Array Value} {G G' : Gh} {W W' : World}
theorem IJ.t (h : IJ S KS M B pb sb base d c0 c1 c2 pcs G W) (ht : TZ S.defs KS M base G G' W W') : IJ S KS M B pb sb base d c0 c1 c2 pcs G' W' :=
  ⟨h.ie.t ht, fun b hb => (ht.u b hb).elim (h.ur b) (fun h1 => .inr (Nat.le_trans h.ie.hbase h1)), by rw [ht.z]; exact h.zd⟩
theorem IJ.r (h : IJ S KS M B pb sb base d c0 c1 c2 pcs G W) (hr : RZ S.defs KS M G G' W W') (hz : G'.1 d) : IJ S KS M B pb sb base d c0 c1 c2 pcs G' W' :=
  ⟨h.ie.r hr, fun b hb => (hr.u b hb).elim (h.ur b) (fun h1 => .inr (Nat.le_trans h.ie.hbase h1)), hz⟩
theorem IJ.put_r (h : IJ S KS M B pb sb base d c0 c1 c2 pcs G W) (hdM : d ≠ M) (o : Obj) : RZ S.defs KS M G G W (W.putObj d o) :=
  ⟨⟨rfl, rfl, rfl, by simp, fun b _ hn => World.putObj_heap_other (fun e => hn (.inr (e ▸ h.zd)))⟩, fun k => k.keep (by simp) (World.putObj_heap_other (by omega)) (fun b hb => World.putObj_heap_other (fun e => h.ie.zu d h.zd (e ▸ hb))), fun _ h => .inl h, fun _ h => h, fun _ _ h => h, fun b hb => by simp; exact h.ie.zlt b hb, fun b hb => h.ie.zu b hb⟩
theorem IJ.put (h : IJ S KS M B pb sb base d c0 c1 c2 pcs G W) (hdM : d ≠ M) (o : Obj) : IJ S KS M B pb sb base d c0 c1 c2 pcs G (W.putObj d o) := h.r (h.put_r hdM o) h.zd
theorem IJ.below (h : IJ S KS M B pb sb base d c0 c1 c2 pcs G W) (hb : Below W.heap.size W W') : IJ S KS M B pb sb base d c0 c1 c2 pcs G W' := h.t (TZ.of_below h.ie.ok.lt h.ie.ok.ok.lt hb)
theorem IJ.comp (h : IJ S KS M B pb sb base d c0 c1 c2 pcs G W) {W1 W3 : World} {o o' : Obj} (hdM : d ≠ M) (hb : Below W.heap.size W W1) (hr : RZ S.defs KS M G G' (W1.putObj d o) W3) : RZ S.defs KS M G G' W (W3.putObj d o') := by
  have hs := hb.size
  have hs3 := hr.mo.size
  rw [World.putObj_size] at hs3
  have hu := hr.u
  rw [World.putObj_size] at hu
  have hd := h.ie.zlt d h.zd
  refine ⟨⟨hr.mo.os.trans hb.os, hr.mo.tape.trans hb.tape, hr.mo.output.trans hb.output, by simp; omega, fun b hlt hn => ?_⟩, fun k => ?_, fun b hb' => (hu b hb').imp_right (fun h => by omega), hr.um, fun b hlt hz => hr.old b (by simp; omega) hz, fun b hz => by simp; exact hr.lt b hz, hr.zu⟩
  · have hne : b ≠ d := fun e => hn (.inr (e ▸ h.zd))
    rw [World.putObj_heap_other hne, hr.mo.block b (by simp; omega) hn, World.putObj_heap_other hne]
    exact hb.block b hlt
  · have k1 := k.keep hs (hb.block M k.ok.lt) (fun b hu => hb.block b (k.lt b hu))
    have k2 : MOU S.defs G.2 KS M (W1.putObj d o) := k1.keep (by simp) (World.putObj_heap_other (by omega)) (fun b hb => World.putObj_heap_other (fun e => h.ie.zu d h.zd (e ▸ hb)))
    exact (hr.ok k2).keep (by simp) (World.putObj_heap_other (by omega)) (fun b hb => World.putObj_heap_other (fun e => by
      subst e
      rcases hu b hb with h1 | h1
      · exact h.ie.zu b h.zd h1
      · omega))
/-- What the caller's steps leave: all but the cache stands. -/
theorem RZ.of_cache (h : IJ S KS M B pb sb base d c0 c1 c2 pcs G W) (hm : MoX M W W') (hk : MOK S.defs (XU G.2 W) KS M W') : RZ S.defs KS M G (G.1, U3 G.2 W W'.heap.size) W W' :=
  ⟨⟨hm.os, hm.tape, hm.output, hm.size, fun b hb hn => hm.block b hb (fun e => hn (.inl e))⟩, fun k => k.of_xu (hk.turn (fun b hb hx => hx.elim id (fun h => absurd hb (by omega)))) (Nat.le_refl _), fun b hb => hb.2, fun b hb => ⟨Nat.lt_of_lt_of_le (h.ie.ok.lt b hb) hm.size, .inl hb⟩, fun _ _ h => h, fun b hz => Nat.lt_of_lt_of_le (h.ie.zlt b hz) hm.size, fun b hz hu => by
    rcases hu.2 with h1 | h1
    · exact h.ie.zu b hz h1
    · have := h.ie.zlt b hz; omega⟩
end
theorem IE.start {S : SchT} {KS : List ByteArray} {M B pb sb base : Nat} {c0 c1 c2 : Value} {pcs : Array Value} {W : World} (Zx : Nat → Prop) (hB : B ≤ M) (hMb : M < base) (hbase : base ≤ W.heap.size) (hz : ∀ b, Zx b → B ≤ b ∧ b < W.heap.size ∧ b ≠ pb ∧ b ≠ sb) (hp : pb ≠ M ∧ pb < base) (hs : sb ≠ M ∧ sb < base) (ok : MOK S.defs (fun b => ¬ b < B) KS M W)
    (pbox : W.heap[pb]? = some (.cells pcs 61 (0, 0))) (sbox : W.heap[sb]? = some (.cells #[c0, c1, c2, .map (some M)] 57 (0, 0))) (sch : TS W (fun b => b < B) (encSch S) [c0, c1, c2]) : IE S KS M B pb sb base c0 c1 c2 pcs (Zx, fun b => b < B) W :=
  ⟨fun b h => (hz b h).2.1, fun b hb h => by have := (hz b h).1; omega, fun b h (hu : b < B) => by have := (hz b h).1; omega, fun _ h => h, ⟨fun h => (hz _ h).2.2.1 rfl, hp⟩, ⟨fun h => (hz _ h).2.2.2 rfl, hs⟩, hB, hMb, hbase, ⟨ok, fun b (h : b < B) => by omega, by show ¬ M < B; omega⟩, pbox, sbox, sch⟩
theorem low_put {B d : Nat} {w W : World} (h : Below B w W) (hd : B ≤ d) (o : Obj) : Below B w (W.putObj d o) :=
  ⟨h.os, h.tape, h.output, by simp; exact h.size, fun b hb => (World.putObj_heap_other (by omega)).trans (h.block b hb)⟩
theorem MoX.low {M B : Nat} {w W W' : World} (h : Below B w W) (hm : MoX M W W') (hB : B ≤ M) (hs : B ≤ w.heap.size) : Below B w W' := h.trans (hm.below hB (Nat.le_trans hs h.size))
theorem postM_ret {n : Nat} {P : Program} {fn : Func} {R : Ending → World → Prop} {a : Act} {w : World} {v : Value} (hr : (results fn a.tmps).run P w = .ok v w) (hd : a.defers = []) (hR : R (.returned v) w) : bodyPostM Fence.wide n P fn R .ret a w := by
  show LeavesInM _ _ _ _ _ _ a.defers _ _
  rw [hd]
  exact ⟨v, hr, hR⟩
theorem postM_mark {n : Nat} {P : Program} {fn : Func} {R : Ending → World → Prop} {a : Act} {w : World} {v : Value} {D : Nat} (hd : a.defers = [{ target := .collected D, args := #[] }]) (hK : w.heap[D]? = some (.deferred (some []))) (hr : ∀ w', (∀ b, b ≠ D → w'.heap[b]? = w.heap[b]?) → (results fn a.tmps).run P w' = .ok v w') (hR : ∀ w', w'.os = w.os → w'.tape = w.tape → w'.output = w.output → w'.heap.size = w.heap.size → (∀ b, b ≠ D → w'.heap[b]? = w.heap[b]?) → R (.returned v) w') : bodyPostM Fence.wide n P fn R .ret a w := by
  show LeavesInM _ _ _ _ _ _ a.defers _ _
  rw [hd]
  refine ⟨by simp, .inl ⟨_, _, rfl, run_takeDeferred hK, ?_⟩⟩
  exact ⟨v, hr _ (fun b hb => World.putObj_heap_other hb), hR _ rfl rfl rfl (by simp) (fun b hb => World.putObj_heap_other hb)⟩
/-- A bool in a box as a result. -/
theorem res_bool {fn : Func} {a : Act} {W : World} {x : Value} {p b : Nat} (hf : fn.results = #[.cell p 4]) (h2 : a.tmps.getD p undef = .pointer (some ⟨b, 0, none⟩)) (hc5 : W.cell? ⟨b, 0, none⟩ = some x) : (results fn a.tmps).run Tryz.prog W = .ok x W := by
  have h2' : a.tmps[p]?.getD undef = .pointer (some ⟨b, 0, none⟩) := by rw [← h2]; simp
  have hu := Tryz.underlying4
  simp [results, hf, h2', asAddr, go_sem, hc5]
end Go.Proofs.YtcfdfgbobnocnaaGreatDoor
namespace Go.Proofs.YtcfdfgbobnocnaaGreatDoor
open Go.RowKit

theorem ret_scm {R : Ending → World → Prop} {fn : Func} {a : Act} {W : World} {x y z u : Value} {b : Nat} (hf : fn.results = #[.cell 2 57]) (h2 : a.tmps.getD 2 undef = .pointer (some ⟨b, 0, none⟩)) (hd : a.defers = [])
    (hc : W.heap[b]? = some (.cells #[x, y, z, u] 57 (0, 0))) (hR : R (.returned (.agg #[x, y, z, u])) W) : bodyPost Tryz.prog fn R .ret a W := by
  have hl : (loadVar 57 ⟨b, 0, none⟩).run Tryz.prog W = .ok (.agg #[x, y, z, u]) W :=
    run_loadVar_row W b 57 57 #[x, y, z, u] (0, 0) _ hc Tryz.underlying57 rfl (by kernel_rfl)
  refine bodyPost_ret ?_ hd hR
  have h2' : a.tmps[2]?.getD undef = .pointer (some ⟨b, 0, none⟩) := by rw [← h2]; simp
  simp [results, hf, h2', asAddr, hl]
set_option maxRecDepth 100000 in
set_option maxHeartbeats 8000000 in
theorem ask_any (A : Option Addr) (n k : Nat) (q m : ByteArray) (w : World) :
    Calls Tryz.prog 27 #[.agg #[.slice A n k, .string q, .string m]] w fun e w' => ∃ M, e = .returned (.agg #[.slice A n k, .string q, .string m, .map (some M)]) ∧ Below w.heap.size w w' ∧ w.heap.size ≤ M ∧ ∀ D X KS, MOK D X KS M w' := by
  have hmm := @run_makeMap Tryz.prog
  go_enter Tryz.func27, Tryz.ntmps27
  go_wp2_with fail
  have hb : Below w.heap.size w ((w.alloc (.cells #[.slice A n k, .string q, .string m] 24)).alloc (.cells #[.slice A n k, .string q, .string m, .map (some (w.heap.size + 1 + 1))] 57)) := two_below w _ _
  refine ret_scm (b := w.heap.size + 1) (x := .slice A n k) (y := .string q) (z := .string m) (u := .map (some (w.heap.size + 1 + 1))) rfl rfl rfl ((Below.heap_alloc _ _ _ (by simp)).trans (heap_two _ _ _)) ⟨w.heap.size + 1 + 1, rfl, hb.alloc (by simp; omega) _, by omega, fun D X KS => ?_⟩
  have := MOK.made D X KS ((w.alloc (.cells #[.slice A n k, .string q, .string m] 24)).alloc (.cells #[.slice A n k, .string q, .string m, .map (some (w.heap.size + 1 + 1))] 57))
  simpa using this
set_option maxRecDepth 100000 in
set_option maxHeartbeats 8000000 in
theorem places_any (A A3 A4 : Option Addr) (n k M : Nat) (q m nm ss : ByteArray) (l mu kd nn : Int) (hs : Bool) (l3 k3 l4 k4 : Nat) (w : World) :
    Calls Tryz.prog 28 #[.agg #[.slice A n k, .string q, .string m, .map (some M)], .agg #[.string nm, .int .i64 l, .int .i64 mu, .bool hs, .int .i64 kd, .int .i64 nn, .string ss, .slice A3 l3 k3, .slice A4 l4 k4]] w fun e w' => e = .returned (.func (.func 45) #[] #[.pointer (some ⟨w.heap.size + 1, 0, none⟩), .pointer (some ⟨w.heap.size, 0, none⟩)]) ∧ w' = (w.alloc (.cells #[.slice A n k, .string q, .string m, .map (some M)] 57)).alloc (.cells #[.string nm, .int .i64 l, .int .i64 mu, .bool hs, .int .i64 kd, .int .i64 nn, .string ss, .slice A3 l3 k3, .slice A4 l4 k4] 61) := by
  go_enter Tryz.func28, Tryz.ntmps28
  go_wp2_with fail
  go_ret
  exact ⟨rfl, rfl⟩
end Go.Proofs.YtcfdfgbobnocnaaGreatDoor
namespace Go.Proofs.YtcfdfgbobnocnaaGreatDoor
open Go.RowKit

/-- A row of values somewhere in memory; what each reaches lies below block B. -/
def RowV (w : World) (B : Nat) (l : VL) (A : Option Addr) : Prop := ∀ (j : Nat) v, l.get j = some v → ∃ b o c0 c1 c2 c3 c4, A = some ⟨b, o, none⟩ ∧ b < w.heap.size ∧ Five w b (o + j * 5) c0 c1 c2 c3 c4 ∧ VAt w B v c0 c1 c2 c3 c4
theorem RowV.of_list {w : World} {B : Nat} {l : VL} {A : Option Addr} (hB : B ≤ w.heap.size) (h : LAt w B l A 0) : RowV w B l A := fun j v hv => by
  obtain ⟨b, o, c0, c1, c2, c3, c4, hA, hlt, hf, hV⟩ := LAt.at h hv
  rw [Nat.zero_add] at hf
  exact ⟨b, o, c0, c1, c2, c3, c4, hA, Nat.lt_of_lt_of_le hlt hB, hf, hV⟩
theorem RowV.below {w w' : World} {B : Nat} {l : VL} {A : Option Addr} (h : RowV w B l A) (hB : B ≤ w.heap.size) (hb : Below w.heap.size w w') : RowV w' B l A := fun j v hv => by
  obtain ⟨b, o, c0, c1, c2, c3, c4, hA, hlt, hf, hV⟩ := h j v hv
  exact ⟨b, o, c0, c1, c2, c3, c4, hA, Nat.lt_of_lt_of_le hlt hb.size, hf.below hb hlt, VAt.below (hb.mono hB) _ _ _ _ _ _ hV⟩
/-- These cells in a row are the list's values. -/
def ValsA (w : World) (B : Nat) : VL → List Value → Prop
  | .nil, xs => xs = []
  | .cons v t, xs => ∃ c0 c1 c2 c3 c4 ys, xs = c0 :: c1 :: c2 :: c3 :: c4 :: ys ∧ VAt w B v c0 c1 c2 c3 c4 ∧ ValsA w B t ys
theorem ValsA.below {w w' : World} {B : Nat} (hb : Below B w w') : ∀ {l : VL} {xs : List Value}, ValsA w B l xs → ValsA w' B l xs
  | .nil, _, h => h
  | .cons v t, xs, h => by
    obtain ⟨c0, c1, c2, c3, c4, ys, e, hv, ht⟩ := h
    exact ⟨c0, c1, c2, c3, c4, ys, e, VAt.below hb _ _ _ _ _ _ hv, ValsA.below hb ht⟩
theorem ValsA.len {w : World} {B : Nat} : ∀ {l : VL} {xs : List Value}, ValsA w B l xs → xs.length = l.len * 5
  | .nil, xs, h => by
    have : xs = [] := h
    rw [this]; rfl
  | .cons v t, xs, h => by
    obtain ⟨c0, c1, c2, c3, c4, ys, rfl, hv, ht⟩ := h
    have := ValsA.len ht
    simp only [List.length_cons, VL.len]; omega
theorem ValsA.app {w : World} {B : Nat} : ∀ {l r : VL} {xs ys : List Value}, ValsA w B l xs → ValsA w B r ys → ValsA w B (l.app r) (xs ++ ys)
  | .nil, r, xs, ys, h, h' => by
    have : xs = [] := h
    rw [this]; exact h'
  | .cons v t, r, xs, ys, h, h' => by
    obtain ⟨c0, c1, c2, c3, c4, zs, rfl, hv, ht⟩ := h
    exact ⟨c0, c1, c2, c3, c4, zs ++ ys, by simp, hv, ValsA.app ht h'⟩
theorem VAt.one {w : World} {B : Nat} {v : VT} {c0 c1 c2 c3 c4 : Value} (h : VAt w B v c0 c1 c2 c3 c4) : c0.oneCell' = true ∧ c1.oneCell' = true ∧ c2.oneCell' = true ∧ c3.oneCell' = true ∧ c4.oneCell' = true := by
  obtain ⟨k, n, s, l, m⟩ := v
  unfold VAt at h
  obtain ⟨rfl, rfl, rfl, _, ⟨A, c, rfl, _, _⟩, A', c', rfl, _, _⟩ := h
  exact ⟨rfl, rfl, rfl, rfl, rfl⟩
theorem ValsA.one {w : World} {B : Nat} : ∀ {l : VL} {xs : List Value}, ValsA w B l xs → ∀ u ∈ xs, u.oneCell' = true
  | .nil, xs, h, u, hu => by
    have : xs = [] := h
    rw [this] at hu; simp at hu
  | .cons v t, xs, h, u, hu => by
    obtain ⟨c0, c1, c2, c3, c4, ys, rfl, hv, ht⟩ := h
    obtain ⟨h0, h1, h2, h3, h4⟩ := hv.one
    simp only [List.mem_cons] at hu
    rcases hu with rfl | rfl | rfl | rfl | rfl | hu
    · exact h0
    · exact h1
    · exact h2
    · exact h3
    · exact h4
    · exact ValsA.one ht u hu
theorem ValsA.get {w : World} {B : Nat} : ∀ {l : VL} {xs : List Value} {j : Nat} {v : VT}, ValsA w B l xs → l.get j = some v → ∃ c0 c1 c2 c3 c4, VAt w B v c0 c1 c2 c3 c4 ∧ xs[j * 5]? = some c0 ∧ xs[j * 5 + 1]? = some c1 ∧ xs[j * 5 + 2]? = some c2 ∧ xs[j * 5 + 3]? = some c3 ∧ xs[j * 5 + 4]? = some c4
  | .nil, _, _, _, _, h => by simp [VL.get] at h
  | .cons u t, xs, 0, v, h, hg => by
    have : u = v := by simpa [VL.get] using hg
    subst this
    obtain ⟨c0, c1, c2, c3, c4, ys, rfl, hv, ht⟩ := h
    exact ⟨c0, c1, c2, c3, c4, hv, rfl, rfl, rfl, rfl, rfl⟩
  | .cons u t, xs, j + 1, v, h, hg => by
    obtain ⟨c0, c1, c2, c3, c4, ys, rfl, hv, ht⟩ := h
    obtain ⟨d0, d1, d2, d3, d4, hv', h0, h1, h2, h3, h4⟩ := ValsA.get (l := t) (j := j) (v := v) ht hg
    refine ⟨d0, d1, d2, d3, d4, hv', ?_, ?_, ?_, ?_, ?_⟩
    · rw [show (j + 1) * 5 = j * 5 + 5 by omega]; simpa using h0
    · rw [show (j + 1) * 5 + 1 = (j * 5 + 1) + 5 by omega]; simpa using h1
    · rw [show (j + 1) * 5 + 2 = (j * 5 + 2) + 5 by omega]; simpa using h2
    · rw [show (j + 1) * 5 + 3 = (j * 5 + 3) + 5 by omega]; simpa using h3
    · rw [show (j + 1) * 5 + 4 = (j * 5 + 4) + 5 by omega]; simpa using h4
/-- The cells of a row, as a list. -/
theorem row_vals {w : World} {B b o : Nat} : ∀ (l : VL) (i : Nat), (∀ (j : Nat) v, l.get j = some v → ∃ c0 c1 c2 c3 c4, Five w b (o + (i + j) * 5) c0 c1 c2 c3 c4 ∧ VAt w B v c0 c1 c2 c3 c4) → ∃ xs, ValsA w B l xs ∧ ∀ j u, xs[j]? = some u → w.cell? ⟨b, o + i * 5 + j, none⟩ = some u
  | .nil, _, _ => ⟨[], rfl, fun j u h => by simp at h⟩
  | .cons v t, i, h => by
    obtain ⟨c0, c1, c2, c3, c4, hf, hv⟩ := h 0 v rfl
    obtain ⟨xs, hx, hc⟩ := row_vals t (i + 1) (fun j v hj => by
      have := h (j + 1) v hj
      rwa [show i + (j + 1) = i + 1 + j by omega] at this)
    refine ⟨c0 :: c1 :: c2 :: c3 :: c4 :: xs, ⟨c0, c1, c2, c3, c4, xs, rfl, hv, hx⟩, fun j u hj => ?_⟩
    obtain ⟨f0, f1, f2, f3, f4⟩ := hf
    rw [Nat.add_zero] at f0 f1 f2 f3 f4
    match j, hj with
    | 0, hj => cases hj; exact f0
    | 1, hj => cases hj; exact f1
    | 2, hj => cases hj; exact f2
    | 3, hj => cases hj; exact f3
    | 4, hj => cases hj; exact f4
    | j + 5, hj =>
      have := hc j u (by simpa using hj)
      rwa [show o + (i + 1) * 5 + j = o + i * 5 + (j + 5) by omega] at this
theorem RowV.vals {w : World} {B : Nat} {l : VL} {a : Addr} (h : RowV w B l (some a)) : ∃ xs, ValsA w B l xs ∧ ∀ j u, xs[j]? = some u → w.cell? (a.add j) = some u := by
  cases hl : l with
  | nil => exact ⟨[], rfl, fun j u h => by simp at h⟩
  | cons v t =>
    rw [hl] at h
    obtain ⟨b, o, _, _, _, _, _, hA, _, _, _⟩ := h 0 v rfl
    have ha : a = ⟨b, o, none⟩ := by injection hA
    subst ha
    obtain ⟨xs, hx, hc⟩ := row_vals (w := w) (B := B) (b := b) (o := o) (.cons v t) 0 (fun j v hv => by
      obtain ⟨b', o', c0, c1, c2, c3, c4, hA', _, hf, hV⟩ := h j v hv
      injection hA' with e
      injection e with e1 e2
      subst e1 e2
      rw [Nat.zero_add]
      exact ⟨c0, c1, c2, c3, c4, hf, hV⟩)
    refine ⟨xs, hx, fun j u hj => ?_⟩
    rw [add_at]
    have := hc j u hj
    rwa [Nat.zero_mul, Nat.add_zero] at this
/-- A row that is owned. -/
theorem row_owned {w : World} {base B : Nat} {V : Value} {l : VL} {xs : List Value} (h : w.ownsRow base 30 5 V l.len xs) (hv : ValsA w B l xs) : ∃ A c, V = .slice A l.len c ∧ RowV w B l A := by
  obtain ⟨A, c, rfl⟩ := shape_own h
  refine ⟨A, c, rfl, fun j v hj => ?_⟩
  rcases h.2 with ⟨hV, hn⟩ | ⟨g, cap, cur, hV, _, hg, _, _, _, _⟩
  · have := VL.nil_of_len hn
    subst this
    simp [VL.get] at hj
  · injection hV with e1 e2 e3
    subst e1
    obtain ⟨c0, c1, c2, c3, c4, hvj, h0, h1, h2, h3, h4⟩ := hv.get hj
    have hlt : ∀ i u, xs[i]? = some u → w.cell? ⟨g, i, none⟩ = some u := fun i u hu => by
      have hil := (List.getElem?_eq_some_iff.1 hu).1
      rw [h.1] at hil
      rw [World.ownsRow.cellAt h i hil, hu]
    have hgs : g < w.heap.size := (h.lt g rfl).2
    exact ⟨g, 0, c0, c1, c2, c3, c4, rfl, hgs, ⟨by rw [Nat.zero_add]; exact hlt _ _ h0, by rw [Nat.zero_add]; exact hlt _ _ h1, by rw [Nat.zero_add]; exact hlt _ _ h2, by rw [Nat.zero_add]; exact hlt _ _ h3, by rw [Nat.zero_add]; exact hlt _ _ h4⟩, hvj⟩
/- The names, one after the other. -/
def namesTo (p : List UInt8 → Bool) : VM → Nat → Bool
  | _, 0 => true
  | .nil, _ + 1 => true
  | .cons nm _ t, j + 1 => p nm.data.toList && namesTo p t j
theorem namesTo_zero (p : List UInt8 → Bool) (m : VM) : namesTo p m 0 = true := by cases m <;> rfl
theorem namesTo_next (p : List UInt8 → Bool) : ∀ {m : VM} {j : Nat} {nm : ByteArray} {v : VT}, m.get j = some (nm, v) → namesTo p m (j + 1) = (namesTo p m j && p nm.data.toList)
  | .nil, _, _, _, h => by simp [VM.get] at h
  | .cons x u t, 0, nm, v, h => by
    have : x = nm ∧ u = v := by simpa [VM.get] using h
    obtain ⟨rfl, rfl⟩ := this
    show (p x.data.toList && namesTo p t 0) = (true && p x.data.toList)
    rw [namesTo_zero]; simp
  | .cons x u t, j + 1, nm, v, h => by
    rw [namesTo, namesTo_next p (m := t) (j := j) (v := v) h, namesTo, Bool.and_assoc]
theorem namesTo_all (p : List UInt8 → Bool) : ∀ m : VM, namesTo p m m.len = namesB p m
  | .nil => rfl
  | .cons nm v t => by rw [VM.len, namesTo, namesTo_all p t, namesB]
theorem names_no (p : List UInt8 → Bool) : ∀ {m : VM} {j : Nat} {nm : ByteArray} {v : VT}, m.get j = some (nm, v) → p nm.data.toList = false → namesB p m = false
  | .nil, _, _, _, h, _ => by simp [VM.get] at h
  | .cons x u t, 0, nm, v, h, hp => by
    have : x = nm ∧ u = v := by simpa [VM.get] using h
    obtain ⟨rfl, rfl⟩ := this
    rw [namesB, hp]; rfl
  | .cons x u t, j + 1, nm, v, h, hp => by
    rw [namesB, names_no p (m := t) (j := j) h hp]; simp
theorem name_size : ∀ {m : VM} {j : Nat} {nm : ByteArray} {v : VT}, m.get j = some (nm, v) → nm.size ≤ sizeM m ∧ sizeV v ≤ sizeM m := fun h => by
  have := sizeM_get h
  omega
/-- What a test of names is: a function that only reads its text. -/
def TestC (fn : Nat) (p : List UInt8 → Bool) : Prop := (∀ args w, (callFunc fn args).run Tryz.prog w = .ok (.enter fn args) w) ∧ ∀ (s : ByteArray) (w : World), s.size ≤ 1100000 → Laid5 w → Calls Tryz.prog fn #[.string s] w fun e w' => e = .returned (.bool (p s.data.toList)) ∧ Below w.heap.size w w'
end Go.Proofs.YtcfdfgbobnocnaaGreatDoor
namespace Go.Proofs.YtcfdfgbobnocnaaGreatDoor
open Go.RowKit

set_option maxRecDepth 100000 in
set_option maxHeartbeats 4000000 in
theorem vnamed_any (fn : Nat) (p : List UInt8 → Bool) (hp : TestC fn p) (m : VM) (A : Option Addr) (c : Nat) (w : World) (B : Nat) (hB : B ≤ w.heap.size) (hm : m.len ≤ 9223372036854775807) (hM : MAt w B m A 0) (hz : sizeM m ≤ 1100000) (hw : Laid5 w) :
    Calls Tryz.prog 65 #[.slice A m.len c, .func (.func fn) #[] #[]] w fun e w' => e = .returned (.bool (namesB p m)) ∧ Below w.heap.size w w' := by
  obtain ⟨he, hP⟩ := hp
  have HP := Lib.hid hP
  have HM := Lib.hid hM
  have HB0 := Lib.hid hB
  have HZ := Lib.hid hz
  have HW := Lib.hid hw
  clear hM hB hP hz hw
  go_enter Tryz.func65, Tryz.ntmps65
  go_wp2_with fail
  go_loopg [9] m.len (fun g i wx => ∃ q : Nat, q + g = m.len ∧ i = .int .i64 q ∧ Below w.heap.size w wx ∧ Aside (namesTo p m q = true))
  case atStart => exact ⟨0, by omega, rfl, Below.refl _ _, vaside (namesTo_zero _ _)⟩
  case round =>
    obtain ⟨q, hq, rfl, hb, HA⟩ := hrel
    have HBB := Lib.hid hb
    clear hb
    cases gk with
    | zero =>
      obtain rfl : q = m.len := by omega
      have hG : Hid (namesB p m = true) := Lib.hid (by rw [← namesTo_all]; exact HA)
      clear HA
      go_wp2_with fail
      go_ret
      exact ⟨ret_bool hG.out.symm, HBB.out⟩
    | succ g =>
      have hqn : q < m.len := by omega
      have hqn' : (q : Int) < (m.len : Int) := by omega
      obtain ⟨⟨nm, v⟩, hv⟩ := VM.get_lt hqn
      have hns := Nat.le_trans (name_size hv).1 HZ.out
      obtain ⟨b, o, d0, d1, d2, d3, d4, rfl, hblt, hnm, _, hF, hV⟩ := MAt.at (MAt.below (HBB.out.mono HB0.out) _ _ _ HM.out) hv
      rw [Nat.zero_add] at hF hnm
      have hnx := Lib.hid (namesTo_next p hv)
      have hno := Lib.hid (names_no p hv)
      have C := fun (wx : World) (hx : Below wr.heap.size wr wx) => Lib.hid (HP.out nm wx hns ((HW.out.below HBB.out).below hx))
      obtain ⟨vk, vn, vs, vl, vm⟩ := v
      unfold VAt at hV
      obtain ⟨rfl, rfl, rfl, _, ⟨A3, c3', rfl, _, _⟩, A4, c4', rfl, _, _⟩ := hV
      obtain ⟨f0, f1, f2, f3, f4⟩ := hF
      have hnew := fun o => (Below.refl wr.heap.size wr).alloc (Nat.le_refl _) o
      have HN := Lib.hid hnew
      clear hnew hv
      cases hpn : p nm.data.toList with
      | true =>
        rw [hpn] at C
        have hN : Hid (namesTo p m (q + 1) = true) := Lib.hid (by rw [hnx.out, HA, hpn]; rfl)
        clear HA hpn hno hnx
        go_wp2_with fail
        refine (C _ (HN.out _)).out.mono ?_
        rintro e w1 ⟨rfl, hb1⟩
        have HB1 := Lib.hid (HBB.out.trans (((HN.out _).trans (hb1.mono (by simp))).mono HBB.out.size))
        clear hb1 C f0 f1 f2 f3 f4 hnm
        go_wp2_with fail
        go_roundg g
        case measure => omega
        case rel => exact ⟨q + 1, by omega, by go_num, HB1.out, vaside hN.out⟩
      | false =>
        rw [hpn] at C
        have hN : Hid (namesB p m = false) := Lib.hid (hno.out hpn)
        clear HA hpn hno hnx
        go_wp2_with fail
        refine (C _ (HN.out _)).out.mono ?_
        rintro e w1 ⟨rfl, hb1⟩
        have HB1 := Lib.hid (HBB.out.trans (((HN.out _).trans (hb1.mono (by simp))).mono HBB.out.size))
        clear hb1 C f0 f1 f2 f3 f4 hnm
        go_wp2_with fail
        go_ret
        exact ⟨ret_bool hN.out.symm, HB1.out⟩
end Go.Proofs.YtcfdfgbobnocnaaGreatDoor
