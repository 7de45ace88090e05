/- dirs.Rule at 12 and 14, and the page's example of dirs. (gen_diawake.py wrote it.) -/
import Derived.Test.YtgihnhdknphhpaaDiRules
namespace Go.Proofs.Ytgihnhdknphhpaa
open Go.RowKit

set_option maxRecDepth 100000 in
set_option maxHeartbeats 8000000 in
theorem drule12_any (s0 s1 s2 : Value) (D : DocT) (c0 c1 : Value) (w : World) (B : Nat) (hB : B ≤ w.heap.size) (hD : DocAt w B D c0 c1) (hN : (allS D).length ≤ 1099511627776) :
    Calls Try.prog 9 #[.agg #[s0, s1, s2], .agg #[c0, c1], .int .i64 12] w fun e w' => e = .returned (.bool (defB D)) ∧ Below w.heap.size w w' := by
  have AD := Lib.hid (fun (wx : World) (h : Below w.heap.size w wx) => areDefined_any D c0 c1 wx B (Nat.le_trans hB h.size) (hD.below (h.mono hB)) hN)
  have ST : ∀ W, W = (w.alloc (.cells #[s0, s1, s2] 53)).alloc (.cells #[c0, c1] 49) → Below w.heap.size w W ∧ W.heap[w.heap.size + 1]? = some (.cells #[c0, c1] 49 (0, 0)) := by
    rintro W rfl
    have h := heap_alloc_new (w.alloc (.cells #[s0, s1, s2] 53)) (.cells #[c0, c1] 49)
    rw [World.size_alloc] at h
    exact ⟨((Below.refl _ _).alloc (Nat.le_refl _) _).alloc (by simp) _, h⟩
  clear hD hB hN
  go_enter Try.func9, Try.ntmps9
  go_upto_region 1 with fail
  obtain ⟨w1, hw1⟩ : ∃ W, W = (w.alloc (.cells #[s0, s1, s2] 53)).alloc (.cells #[c0, c1] 49) := ⟨_, rfl⟩
  obtain ⟨h1, h2⟩ := ST w1 hw1
  rw [← hw1]
  have B1 := Lib.hid h1
  obtain ⟨⟨z0, z1⟩, _⟩ := gcells2 h2
  clear h1 h2 hw1 ST
  go_wp2_with fail
  refine (AD.out _ B1.out).mono ?_
  rintro e w2 ⟨rfl, hb2⟩
  have B2 := Lib.hid (B1.out.trans (hb2.mono B1.out.size))
  clear hb2 AD z0 z1
  go_wp2_with fail
  go_ret
  exact ⟨rfl, B2.out⟩
set_option maxRecDepth 100000 in
set_option maxHeartbeats 8000000 in
theorem drule14_any (s0 s1 s2 : Value) (D : DocT) (c0 c1 : Value) (w : World) (B : Nat) (hB : B ≤ w.heap.size) (hD : DocAt w B D c0 c1) (hN : (allS D).length ≤ 1099511627776) :
    Calls Try.prog 9 #[.agg #[s0, s1, s2], .agg #[c0, c1], .int .i64 14] w fun e w' => e = .returned (.bool (onceB D)) ∧ Below w.heap.size w w' := by
  have AD := Lib.hid (fun (wx : World) (h : Below w.heap.size w wx) => occurOnce_any D c0 c1 wx B (Nat.le_trans hB h.size) (hD.below (h.mono hB)) hN)
  have ST : ∀ W, W = (w.alloc (.cells #[s0, s1, s2] 53)).alloc (.cells #[c0, c1] 49) → Below w.heap.size w W ∧ W.heap[w.heap.size + 1]? = some (.cells #[c0, c1] 49 (0, 0)) := by
    rintro W rfl
    have h := heap_alloc_new (w.alloc (.cells #[s0, s1, s2] 53)) (.cells #[c0, c1] 49)
    rw [World.size_alloc] at h
    exact ⟨((Below.refl _ _).alloc (Nat.le_refl _) _).alloc (by simp) _, h⟩
  clear hD hB hN
  go_enter Try.func9, Try.ntmps9
  go_upto_region 1 with fail
  obtain ⟨w1, hw1⟩ : ∃ W, W = (w.alloc (.cells #[s0, s1, s2] 53)).alloc (.cells #[c0, c1] 49) := ⟨_, rfl⟩
  obtain ⟨h1, h2⟩ := ST w1 hw1
  rw [← hw1]
  have B1 := Lib.hid h1
  obtain ⟨⟨z0, z1⟩, _⟩ := gcells2 h2
  clear h1 h2 hw1 ST
  go_wp2_with fail
  refine (AD.out _ B1.out).mono ?_
  rintro e w2 ⟨rfl, hb2⟩
  have B2 := Lib.hid (B1.out.trans (hb2.mono B1.out.size))
  clear hb2 AD z0 z1
  go_wp2_with fail
  go_ret
  exact ⟨rfl, B2.out⟩
def yesM : VM := .cons nmIf (.mk 1 1 ⟨#[]⟩ .nil .nil) .nil
def selY : SelT := .mk 0 ⟨#[]⟩ ⟨#[97]⟩ .nil [(nmSkip, yesM), (nmSkip, yesM)] ⟨#[]⟩ .nil
def docY : DocT := ⟨[⟨0, ⟨#[]⟩, [], [], .cons selY .nil⟩], []⟩
theorem dcells_at {w : World} {g : Nat} {l : List Value} {t : TypeId} (h : w.heap[g]? = some (.cells l.toArray t (0, 0))) (j : Nat) (u : Value) (hu : l[j]? = some u) : w.cell? ⟨g, 0 + j, none⟩ = some u := by
  rw [Nat.zero_add]
  simp [World.cell?, h]
  obtain ⟨hl, e⟩ := List.getElem?_eq_some_iff.1 hu
  simpa using hu
theorem yes_row {w : World} {P : Nat → Prop} {g : Nat} (h : w.heap[g]? = some (.cells #[.string ⟨#[105, 102]⟩, .int .i64 1, .int .i64 1, .string ⟨#[]⟩, .slice none 0 0, .slice none 0 0] 57 (0, 0))) (hg : P g) : RowT w P (encM yesM) (some ⟨g, 0, none⟩) := by
  unfold yesM
  rw [encM]
  unfold RowT
  refine ⟨g, 0, [.string nmIf, .int .i64 1, .int .i64 1, .string ⟨#[]⟩, .slice none 0 0, .slice none 0 0], rfl, hg, dcells_at (l := [.string nmIf, .int .i64 1, .int .i64 1, .string ⟨#[]⟩, .slice none 0 0, .slice none 0 0]) h, ?_, by rw [encM]; unfold RowT; trivial⟩
  rw [encV]
  simp only [TS, TP]
  exact ⟨_, _, rfl, ⟨rfl, by show (2 : Nat) ≤ _; decide⟩, _, _, rfl, ⟨rfl, trivial⟩, _, _, rfl, ⟨rfl, trivial⟩, _, _, rfl, ⟨rfl, by show (0 : Nat) ≤ _; decide⟩, _, _, rfl, ⟨none, 0, by rw [encL]; rfl, by rw [encL]; exact Nat.zero_le _, by rw [encL]; unfold RowT; trivial⟩, _, _, rfl, ⟨none, 0, by rw [encM]; rfl, by rw [encM]; exact Nat.zero_le _, by rw [encM]; unfold RowT; trivial⟩, rfl⟩
theorem ydirs_row {w : World} {P : Nat → Prop} {g1 g2 gd : Nat} (h1 : w.heap[g1]? = some (.cells #[.string ⟨#[105, 102]⟩, .int .i64 1, .int .i64 1, .string ⟨#[]⟩, .slice none 0 0, .slice none 0 0] 57 (0, 0))) (h2 : w.heap[g2]? = some (.cells #[.string ⟨#[105, 102]⟩, .int .i64 1, .int .i64 1, .string ⟨#[]⟩, .slice none 0 0, .slice none 0 0] 57 (0, 0))) (hd : w.heap[gd]? = some (.cells #[.string nmSkip, .slice (some ⟨g1, 0, none⟩) 1 1, .string nmSkip, .slice (some ⟨g2, 0, none⟩) 1 1] 37 (0, 0))) (p1 : P g1) (p2 : P g2) (p3 : P gd) : RowT w P (rowOf encD selY.dirs) (some ⟨gd, 0, none⟩) := by
  have hc := dcells_at (l := [.string nmSkip, .slice (some ⟨g1, 0, none⟩) 1 1, .string nmSkip, .slice (some ⟨g2, 0, none⟩) 1 1]) hd
  show RowT w P (rowOf encD [(nmSkip, yesM), (nmSkip, yesM)]) _
  rw [rowOf]
  unfold RowT
  refine ⟨gd, 0, [.string nmSkip, .slice (some ⟨g1, 0, none⟩) 1 1], rfl, p3, fun j u hj => ?_, ?_, ?_⟩
  · match j, hj with
    | 0, hj => exact hc 0 u hj
    | 1, hj => exact hc 1 u hj
  · unfold encD
    simp only [TS, TP]
    exact ⟨_, _, rfl, ⟨rfl, by show (4 : Nat) ≤ _; decide⟩, _, _, rfl, ⟨some ⟨g1, 0, none⟩, 1, by rw [encM_len]; rfl, by rw [encM_len]; show (1 : Nat) ≤ _; decide, yes_row h1 p1⟩, rfl⟩
  · rw [rowOf, show (encD (nmSkip, yesM)).len = 2 from rfl]
    unfold RowT
    refine ⟨gd, 2, [.string nmSkip, .slice (some ⟨g2, 0, none⟩) 1 1], rfl, p3, fun j u hj => ?_, ?_, by rw [rowOf]; unfold RowT; trivial⟩
    · match j, hj with
      | 0, hj => exact hc 2 u hj
      | 1, hj => exact hc 3 u hj
    · unfold encD
      simp only [TS, TP]
      exact ⟨_, _, rfl, ⟨rfl, by show (4 : Nat) ≤ _; decide⟩, _, _, rfl, ⟨some ⟨g2, 0, none⟩, 1, by rw [encM_len]; rfl, by rw [encM_len]; show (1 : Nat) ≤ _; decide, yes_row h2 p2⟩, rfl⟩
theorem ysels_at {w : World} {B g1 g2 gd gs : Nat} (h1 : w.heap[g1]? = some (.cells #[.string ⟨#[105, 102]⟩, .int .i64 1, .int .i64 1, .string ⟨#[]⟩, .slice none 0 0, .slice none 0 0] 57 (0, 0))) (h2 : w.heap[g2]? = some (.cells #[.string ⟨#[105, 102]⟩, .int .i64 1, .int .i64 1, .string ⟨#[]⟩, .slice none 0 0, .slice none 0 0] 57 (0, 0))) (hd : w.heap[gd]? = some (.cells #[.string nmSkip, .slice (some ⟨g1, 0, none⟩) 1 1, .string nmSkip, .slice (some ⟨g2, 0, none⟩) 1 1] 37 (0, 0))) (hs : w.heap[gs]? = some (.cells #[.int .i64 0, .string ⟨#[]⟩, .string ⟨#[97]⟩, .slice none 0 0, .slice (some ⟨gd, 0, none⟩) 2 2, .string ⟨#[]⟩, .slice none 0 0] 42 (0, 0))) (p1 : g1 < B) (p2 : g2 < B) (p3 : gd < B) (p4 : gs < B) : SelsAt w B (.cons selY .nil) (some ⟨gs, 0, none⟩) := by
  have hc := dcells_at (l := [.int .i64 0, .string ⟨#[]⟩, .string ⟨#[97]⟩, .slice none 0 0, .slice (some ⟨gd, 0, none⟩) 2 2, .string ⟨#[]⟩, .slice none 0 0]) hs
  have hr := ydirs_row (P := fun b => b < B) h1 h2 hd p1 p2 p3
  constructor
  · rw [encSL]
    unfold RowT
    refine ⟨gs, 0, _, rfl, p4, hc, ?_, by rw [encSL]; unfold RowT; trivial⟩
    unfold selY at hr ⊢
    rw [encS]
    simp only [TS, TP]
    exact ⟨_, _, rfl, ⟨rfl, trivial⟩, _, _, rfl, ⟨rfl, by show (0 : Nat) ≤ _; decide⟩, _, _, rfl, ⟨rfl, by show (1 : Nat) ≤ _; decide⟩, _, _, rfl, ⟨none, 0, by rw [encM]; rfl, by rw [encM]; exact Nat.zero_le _, by rw [encM]; unfold RowT; trivial⟩, _, _, rfl, ⟨some ⟨gd, 0, none⟩, 2, rfl, by show (2 : Nat) ≤ _; decide, hr⟩, _, _, rfl, ⟨rfl, by show (0 : Nat) ≤ _; decide⟩, _, _, rfl, ⟨none, 0, by rw [encSL]; rfl, by rw [encSL]; exact Nat.zero_le _, by rw [encSL]; unfold RowT; trivial⟩, rfl⟩
  · rw [CapL]
    exact ⟨gs, 0, none, 0, rfl, p4, hc 6 _ rfl, Nat.le_refl _, by rw [capX_eq]; exact capL_nil _, capL_nil _⟩
theorem ydoc_at {w : World} {B g1 g2 gd gs go : Nat} (h1 : w.heap[g1]? = some (.cells #[.string ⟨#[105, 102]⟩, .int .i64 1, .int .i64 1, .string ⟨#[]⟩, .slice none 0 0, .slice none 0 0] 57 (0, 0))) (h2 : w.heap[g2]? = some (.cells #[.string ⟨#[105, 102]⟩, .int .i64 1, .int .i64 1, .string ⟨#[]⟩, .slice none 0 0, .slice none 0 0] 57 (0, 0))) (hd : w.heap[gd]? = some (.cells #[.string nmSkip, .slice (some ⟨g1, 0, none⟩) 1 1, .string nmSkip, .slice (some ⟨g2, 0, none⟩) 1 1] 37 (0, 0))) (hs : w.heap[gs]? = some (.cells #[.int .i64 0, .string ⟨#[]⟩, .string ⟨#[97]⟩, .slice none 0 0, .slice (some ⟨gd, 0, none⟩) 2 2, .string ⟨#[]⟩, .slice none 0 0] 42 (0, 0))) (ho : w.heap[go]? = some (.cells #[.int .i64 0, .string ⟨#[]⟩, .slice none 0 0, .slice none 0 0, .slice (some ⟨gs, 0, none⟩) 1 1] 45 (0, 0))) (p1 : g1 < B) (p2 : g2 < B) (p3 : gd < B) (p4 : gs < B) (p5 : go < B) : DocAt w B docY (.slice (some ⟨go, 0, none⟩) 1 1) (.slice none 0 0) := by
  have hS := ysels_at h1 h2 hd hs p1 p2 p3 p4
  have hc := dcells_at (l := [.int .i64 0, .string ⟨#[]⟩, .slice none 0 0, .slice none 0 0, .slice (some ⟨gs, 0, none⟩) 1 1]) ho
  refine ⟨?_, fun A k e q l b p As ks hq hA hcl hR => ?_, fun A k e q l b p As ks hq => ?_⟩
  · unfold encDoc docY
    simp only [TS, TP]
    refine ⟨_, _, rfl, ⟨some ⟨go, 0, none⟩, 1, rfl, by show (1 : Nat) ≤ _; decide, ?_⟩, _, _, rfl, ⟨none, 0, rfl, Nat.zero_le _, by rw [rowOf]; unfold RowT; trivial⟩, rfl⟩
    rw [rowOf]
    unfold RowT
    refine ⟨go, 0, _, rfl, p5, hc, ?_, by rw [rowOf]; unfold RowT; trivial⟩
    unfold encOp
    simp only [TS, TP]
    exact ⟨_, _, rfl, ⟨rfl, trivial⟩, _, _, rfl, ⟨rfl, by show (0 : Nat) ≤ _; decide⟩, _, _, rfl, ⟨none, 0, rfl, Nat.zero_le _, by rw [rowOf]; unfold RowT; trivial⟩, _, _, rfl, ⟨none, 0, rfl, Nat.zero_le _, by rw [rowOf]; unfold RowT; trivial⟩, _, _, rfl, ⟨some ⟨gs, 0, none⟩, 1, by rw [encSL_len]; rfl, by rw [encSL_len]; show (1 : Nat) ≤ _; decide, hS.1⟩, rfl⟩
  · have e : Value.slice (some ⟨go, 0, none⟩) 1 1 = .slice A 1 k := e
    injection e with e1 _ e3
    subst e1 e3
    injection hA with hA
    injection hA with hA1 hA2
    subst hA1 hA2
    obtain ⟨x, hx, rfl⟩ := Option.map_eq_some_iff.1 hq
    have hx : [(⟨0, ⟨#[]⟩, [], [], .cons selY .nil⟩ : OpT)][q]? = some x := hx
    obtain rfl : q = 0 := by
      have := (List.getElem?_eq_some_iff.1 hx).1
      simp at this
      exact this
    have hx : (⟨0, ⟨#[]⟩, [], [], .cons selY .nil⟩ : OpT) = x := Option.some.inj hx
    subst hx
    have h3 := hc 4 _ rfl
    have hcl : w.cell? ⟨go, 0 + 4, none⟩ = _ := hcl
    rw [h3] at hcl
    injection hcl with hcl
    injection hcl with e1 _ e3
    subst e1 e3
    exact ⟨Nat.le_refl _, hS.2⟩
  · have hq : (([] : List FragT)[q]?).map (fun x : FragT => x.sels) = some l := hq
    simp at hq
theorem yall : allS docY = [asSel [] (.cons selY .nil), selY] := by
  unfold allS wholesL docY
  show gpreL (toSL [asSel [] (.cons selY .nil)]) = _
  rw [toSL, toSL, gpreL_cons, gpreL_nil, List.append_nil]
  show _ :: gpreL (.cons selY .nil) = _
  rw [gpreL_cons, gpreL_nil, List.append_nil]
  show _ :: selY :: gpreL .nil = _
  rw [gpreL_nil]
theorem ydef : defB docY = true := by
  unfold defB
  rw [yall]
  have h : isDir nmSkip = true := by decide +kernel
  simp [defX, asSel, selY, SelT.dirs, h]
theorem yonce : onceB docY = false := by
  unfold onceB
  rw [yall]
  have h : inN [nmSkip] nmSkip = true := by decide +kernel
  simp [onceX, asSel, selY, SelT.dirs, onceN, h]
theorem ylen : (allS docY).length ≤ 1099511627776 := by rw [yall]; decide
theorem y12_any (s0 s1 s2 c0 c1 : Value) (w : World) (B : Nat) (hB : B ≤ w.heap.size) (hD : DocAt w B docY c0 c1) : Calls Try.prog 9 #[.agg #[s0, s1, s2], .agg #[c0, c1], .int .i64 12] w fun e w' => e = .returned (.bool true) ∧ Below w.heap.size w w' := by
  have h := drule12_any s0 s1 s2 docY c0 c1 w B hB hD ylen
  rwa [ydef] at h
theorem y14_any (s0 s1 s2 c0 c1 : Value) (w : World) (B : Nat) (hB : B ≤ w.heap.size) (hD : DocAt w B docY c0 c1) : Calls Try.prog 9 #[.agg #[s0, s1, s2], .agg #[c0, c1], .int .i64 14] w fun e w' => e = .returned (.bool false) ∧ Below w.heap.size w w' := by
  have h := drule14_any s0 s1 s2 docY c0 c1 w B hB hD ylen
  rwa [yonce] at h
def QY (wz : World) (cs : List (Nat × Nat × Value)) (W : World) : Prop := (∀ p, p ∈ cs → W.cell? ⟨p.1, p.2.1, none⟩ = some p.2.2) ∧ Below wz.heap.size wz W
theorem QY.next {wz W W' : World} {cs : List (Nat × Nat × Value)} (h : QY wz cs W) (hl : ∀ p, p ∈ cs → p.1 < wz.heap.size) (hb : Below W.heap.size W W') : QY wz cs W' :=
  ⟨fun p hp => (hb.cell (p := ⟨p.1, p.2.1, none⟩) (Nat.lt_of_lt_of_le (hl p hp) h.2.size)).trans (h.1 p hp), h.2.trans (hb.mono h.2.size)⟩
theorem yq_written {wz W : World} {a1 b1 a2 b2 a3 b3 a4 b4 a5 b5 a6 b6 : Nat} {v1 v2 v3 v4 v5 v6 : Value} (h : QY wz [(a1, b1, v1), (a2, b2, v2), (a3, b3, v3), (a4, b4, v4), (a5, b5, v5), (a6, b6, v6)] W) :
    W.cell? ⟨a1, b1, none⟩ = some v1 ∧ W.cell? ⟨a2, b2, none⟩ = some v2 ∧ W.cell? ⟨a3, b3, none⟩ = some v3 ∧ W.cell? ⟨a4, b4, none⟩ = some v4 ∧ W.cell? ⟨a5, b5, none⟩ = some v5 ∧ W.cell? ⟨a6, b6, none⟩ = some v6 ∧ QY wz [(a1, b1, v1), (a2, b2, v2), (a3, b3, v3), (a4, b4, v4), (a5, b5, v5), (a6, b6, v6)] W :=
  ⟨h.1 (a1, b1, v1) (by simp), h.1 (a2, b2, v2) (by simp), h.1 (a3, b3, v3) (by simp), h.1 (a4, b4, v4) (by simp), h.1 (a5, b5, v5) (by simp), h.1 (a6, b6, v6) (by simp), h⟩
theorem yq_held {wz W : World} {cs : List (Nat × Nat × Value)} {p1 p2 p3 p4 p5 p6 : Prop} (h : p1 ∧ p2 ∧ p3 ∧ p4 ∧ p5 ∧ p6 ∧ QY wz cs W) : Below wz.heap.size wz W := h.2.2.2.2.2.2.2
theorem yq_last {wz W : World} {cs : List (Nat × Nat × Value)} {p1 p2 p3 p4 p5 p6 : Prop} (h : p1 ∧ p2 ∧ p3 ∧ p4 ∧ p5 ∧ p6 ∧ QY wz cs W) : QY wz cs W := h.2.2.2.2.2.2
theorem incl_is : isDir ⟨#[105, 110, 99, 108, 117, 100, 101]⟩ = true := by decide +kernel
theorem gres_one {fn : Func} {a : Act} {W : World} {x0 x1 : Value} {b p : Nat} (hf : fn.results = #[.cell p 37]) (h2 : a.tmps.getD p undef = .pointer (some ⟨b, 0, none⟩)) (c0 : W.cell? ⟨b, 0, none⟩ = some x0) (c1 : W.cell? ⟨b, 1, none⟩ = some x1) : (results fn a.tmps).run Try.prog W = .ok (.agg #[x0, x1]) W := by
  have h2' : a.tmps[p]?.getD undef = .pointer (some ⟨b, 0, none⟩) := by rw [← h2]; simp
  have hu := Try.underlying37
  have hu0 := Try.underlying26
  have hu1 := Try.underlying9
  simp [results, hf, h2', asAddr, go_sem, c0, c1]
theorem gres_sch {fn : Func} {a : Act} {W : World} {x0 x1 x2 : Value} {b : Nat} (hf : fn.results = #[.cell 0 53]) (h2 : a.tmps.getD 0 undef = .pointer (some ⟨b, 0, none⟩)) (c0 : W.cell? ⟨b, 0, none⟩ = some x0) (c1 : W.cell? ⟨b, 1, none⟩ = some x1) (c2 : W.cell? ⟨b, 2, none⟩ = some x2) : (results fn a.tmps).run Try.prog W = .ok (.agg #[x0, x1, x2]) W := by
  have h2' : a.tmps[0]?.getD undef = .pointer (some ⟨b, 0, none⟩) := by rw [← h2]; simp
  have hu := Try.underlying53
  have hu0 := Try.underlying51
  have hu1 := Try.underlying9
  simp [results, hf, h2', asAddr, go_sem, c0, c1, c2]
set_option maxRecDepth 100000 in
set_option maxHeartbeats 8000000 in
theorem yes_any (s : ByteArray) (w : World) : Calls Try.prog 8 #[.string s] w fun e w' => ∃ g, e = .returned (.agg #[.string s, .slice (some ⟨g, 0, none⟩) 1 1]) ∧ w'.heap[g]? = some (.cells #[.string ⟨#[105, 102]⟩, .int .i64 1, .int .i64 1, .string ⟨#[]⟩, .slice none 0 0, .slice none 0 0] 57 (0, 0)) ∧ Below w.heap.size w w' := by
  go_enter Try.func8, Try.ntmps8
  go_wp2_with fail
  have hb : ∀ (a b : Obj) (W : World), W = (w.alloc a).alloc b → Below w.heap.size w W ∧ W.heap[w.heap.size]? = some a ∧ W.heap[w.heap.size + 1]? = some b := by
    rintro a b W rfl
    have h := heap_alloc_new (w.alloc a) b
    rw [World.size_alloc] at h
    exact ⟨(gnew w a).alloc (by simp) _, by rw [Below.heap_alloc _ _ _ (by simp)]; exact heap_alloc_new _ _, h⟩
  obtain ⟨k1, k2, k3⟩ := hb _ _ _ rfl
  obtain ⟨⟨c0, c1⟩, _⟩ := gcells2 k2
  exact bodyPost_ret (gres_one rfl rfl c0 c1) rfl ⟨_, rfl, k3, k1⟩
set_option maxRecDepth 100000 in
set_option maxHeartbeats 8000000 in
theorem dworld_any (w : World) : Calls Try.prog 10 #[] w fun e w' => (∃ s0 s1 s2, e = .returned (.agg #[s0, s1, s2])) ∧ Below w.heap.size w w' := by
  go_enter Try.func10, Try.ntmps10
  go_wp2_with fail
  have hb : ∀ (a b c : Obj) (W : World), W = ((w.alloc a).alloc b).alloc c → Below w.heap.size w W ∧ W.heap[w.heap.size]? = some a := by
    rintro a b c W rfl
    exact ⟨((gnew w a).alloc (by simp) _).alloc (by simp; omega) _, by rw [Below.heap_alloc _ _ _ (by simp; omega), Below.heap_alloc _ _ _ (by simp)]; exact heap_alloc_new _ _⟩
  obtain ⟨h1, h2⟩ := hb _ _ _ _ rfl
  obtain ⟨⟨c0, c1, c2⟩, _⟩ := gcells3 h2
  exact bodyPost_ret (gres_sch rfl rfl c0 c1 c2) rfl ⟨⟨_, _, _, rfl⟩, h1⟩
set_option maxRecDepth 100000 in
set_option maxHeartbeats 8000000 in
theorem diawake_any (w : World) : Calls Try.prog 4 #[] w fun e w' => e = .returned (.bool true) ∧ Below w.heap.size w w' := by
  go_enter Try.func4, Try.ntmps4
  go_wp2_with fail
  refine (yes_any _ _).mono ?_
  rintro e w1 ⟨g1, rfl, h1, hb1⟩
  have B1 := Lib.hid hb1
  have H1 := Lib.hid h1
  clear hb1 h1
  go_wp2_with fail
  refine (yes_any _ _).mono ?_
  rintro e w2 ⟨g2, rfl, h2, hb2⟩
  have B2 := Lib.hid (B1.out.trans (hb2.mono B1.out.size))
  have H1 := Lib.hid ((hb2.block g1 (Array.getElem?_eq_some_iff.1 H1.out).1).trans H1.out)
  have H2 := Lib.hid h2
  clear hb2 h2 B1
  have HB : ∀ (a b c d : Obj) (W : World), W = (((w2.alloc a).alloc b).alloc c).alloc d → Below w2.heap.size w2 W ∧ W.heap.size = w2.heap.size + 4 ∧ W.heap[w2.heap.size]? = some a ∧ W.heap[w2.heap.size + 1]? = some b ∧ W.heap[w2.heap.size + 1 + 1]? = some c ∧ W.heap[w2.heap.size + 1 + 1 + 1]? = some d := by
    rintro a b c d W rfl
    have h1 := heap_alloc_new (w2.alloc a) b
    have h2 := heap_alloc_new ((w2.alloc a).alloc b) c
    have h3 := heap_alloc_new (((w2.alloc a).alloc b).alloc c) d
    rw [World.size_alloc] at h1
    rw [World.size_alloc, World.size_alloc] at h2
    rw [World.size_alloc, World.size_alloc, World.size_alloc] at h3
    refine ⟨(((gnew w2 a).alloc (by simp) _).alloc (by simp; omega) _).alloc (by simp; omega) _, by simp, ?_, ?_, ?_, h3⟩
    · rw [Below.heap_alloc _ _ _ (by simp; omega), Below.heap_alloc _ _ _ (by simp; omega), Below.heap_alloc _ _ _ (by simp)]; exact heap_alloc_new _ _
    · rw [Below.heap_alloc _ _ _ (by simp), Below.heap_alloc _ _ _ (by simp)]; exact h1
    · rw [Below.heap_alloc _ _ _ (by simp)]; exact h2
  have HB := Lib.hid HB
  go_wp2_with fail
  have HB := HB.out
  have HQ := HB (.cells #[.string ⟨#[115, 107, 105, 112]⟩, .slice (some ⟨g1, 0, none⟩) 1 1, .string ⟨#[115, 107, 105, 112]⟩, .slice (some ⟨g2, 0, none⟩) 1 1] 37) (.cells #[.int .i64 0, .string ⟨#[]⟩, .string ⟨#[97]⟩, .slice none 0 0, .slice (some ⟨w2.heap.size, 0, none⟩) 2 2, .string ⟨#[]⟩, .slice none 0 0] 42) (.cells #[.int .i64 0, .string ⟨#[]⟩, .slice none 0 0, .slice none 0 0, .slice (some ⟨w2.heap.size + 1, 0, none⟩) 1 1] 45) (.cells #[.slice (some ⟨w2.heap.size + 1 + 1, 0, none⟩) 1 1, .slice none 0 0] 49) _ rfl
  generalize (((w2.alloc _).alloc _).alloc _).alloc _ = w3 at HQ ⊢
  obtain ⟨hb3, hs3, k0, k1, k2, k3⟩ := HQ
  have DA : DocAt w3 w3.heap.size docY (.slice (some ⟨w2.heap.size + 1 + 1, 0, none⟩) 1 1) (.slice none 0 0) := by
    have l1 := (Array.getElem?_eq_some_iff.1 H1.out).1
    have l2 := (Array.getElem?_eq_some_iff.1 H2.out).1
    exact ydoc_at ((hb3.block g1 l1).trans H1.out) ((hb3.block g2 l2).trans H2.out) k0 k1 k2 (by omega) (by omega) (by omega) (by omega) (by omega)
  have HDA := Lib.hid DA
  have B3 := Lib.hid (B2.out.trans (hb3.mono B2.out.size))
  have K3 := Lib.hid k3
  clear hb3 hs3 k0 k1 k2 k3 DA HB H1 H2 B2
  have DP := Lib.hid (fun (wx : World) => dpar_any ⟨#[105, 110, 99, 108, 117, 100, 101]⟩ wx)
  unfold DparO at DP
  rw [incl_is] at DP
  refine (DP.out _).mono ?_
  rintro e w4 ⟨rfl, hb4⟩
  unfold dparV nmIf nmBoole
  have B4 := Lib.hid (B3.out.trans (hb4.mono B3.out.size))
  have K4 := Lib.hid ((hb4.block _ (Array.getElem?_eq_some_iff.1 K3.out).1).trans K3.out)
  have D4 := Lib.hid (HDA.out.below hb4)
  have S4 := Lib.hid hb4.size
  clear hb4 DP K3 HDA B3
  go_upto_region 3 with fail
  have B5 := Lib.hid (gnew w4 (.cells #[.string ⟨#[105, 102]⟩, .string ⟨#[66, 111, 111, 108, 101, 97, 110]⟩, .int .i64 0, .int .i64 1, .bool false, .int .i64 0, .int .i64 0, .string ⟨#[]⟩, .slice none 0 0, .slice none 0 0] 30))
  have I5 := Lib.hid (heap_alloc_new w4 (.cells #[.string ⟨#[105, 102]⟩, .string ⟨#[66, 111, 111, 108, 101, 97, 110]⟩, .int .i64 0, .int .i64 1, .bool false, .int .i64 0, .int .i64 0, .string ⟨#[]⟩, .slice none 0 0, .slice none 0 0] 30))
  generalize w4.alloc (.cells #[.string ⟨#[105, 102]⟩, .string ⟨#[66, 111, 111, 108, 101, 97, 110]⟩, .int .i64 0, .int .i64 1, .bool false, .int .i64 0, .int .i64 0, .string ⟨#[]⟩, .slice none 0 0, .slice none 0 0] 30) = w5 at B5 I5 ⊢
  have C5 := Lib.hid (B4.out.trans (B5.out.mono B4.out.size))
  have K5 := Lib.hid ((B5.out.block _ (Array.getElem?_eq_some_iff.1 K4.out).1).trans K4.out)
  have D5 := Lib.hid (D4.out.below (B5.out.mono S4.out))
  have S5 := Lib.hid (Nat.le_trans S4.out B5.out.size)
  have G5 : w4.heap.size < w5.heap.size := (Array.getElem?_eq_some_iff.1 I5.out).1
  generalize w4.heap.size = gp at I5 G5 ⊢
  generalize w3.heap.size = B at D5 S5
  generalize w2.heap.size + 1 + 1 + 1 = gd at K5 ⊢
  obtain ⟨⟨y0, y1, y2, y3, y4, y5, y6, y7, y8, y9⟩, _⟩ := dp_box I5.out
  obtain ⟨⟨x0, x1⟩, _⟩ := gcells2 K5.out
  clear B4 K4 D4 S4 B5
  clear y4 y5 y6 y7 y8 y9
  have HE : Hid (QY w5 [(gp, 0, (Value.string ⟨#[105, 102]⟩)), (gp, 1, (Value.string ⟨#[66, 111, 111, 108, 101, 97, 110]⟩)), (gp, 2, (Value.int .i64 0)), (gp, 3, (Value.int .i64 1)), (gd, 0, (Value.slice (some ⟨w2.heap.size + 1 + 1, 0, none⟩) 1 1)), (gd, 1, (Value.slice none 0 0))] w5) := Lib.hid (by
    refine ⟨fun p hp => ?_, Below.refl _ _⟩
    simp only [List.mem_cons, List.not_mem_nil, or_false] at hp
    rcases hp with rfl | rfl | rfl | rfl | rfl | rfl <;> assumption)
  have HL : Hid (∀ p, p ∈ [(gp, 0, (Value.string ⟨#[105, 102]⟩)), (gp, 1, (Value.string ⟨#[66, 111, 111, 108, 101, 97, 110]⟩)), (gp, 2, (Value.int .i64 0)), (gp, 3, (Value.int .i64 1)), (gd, 0, (Value.slice (some ⟨w2.heap.size + 1 + 1, 0, none⟩) 1 1)), (gd, 1, (Value.slice none 0 0))] → p.1 < w5.heap.size) := Lib.hid (fun p hp => by
    have h9 := G5
    have h8 := (Array.getElem?_eq_some_iff.1 K5.out).1
    simp only [List.mem_cons, List.not_mem_nil, or_false] at hp
    rcases hp with rfl | rfl | rfl | rfl | rfl | rfl <;> assumption)
  clear y0 y1 y2 y3 x0 x1
  refine wp_region_held_drew (S := (fun w' => w'.cell? ⟨gp, 0, none⟩ = some (Value.string ⟨#[105, 102]⟩) ∧ w'.cell? ⟨gp, 1, none⟩ = some (Value.string ⟨#[66, 111, 111, 108, 101, 97, 110]⟩) ∧ w'.cell? ⟨gp, 2, none⟩ = some (Value.int .i64 0) ∧ w'.cell? ⟨gp, 3, none⟩ = some (Value.int .i64 1) ∧ w'.cell? ⟨gd, 0, none⟩ = some (Value.slice (some ⟨w2.heap.size + 1 + 1, 0, none⟩) 1 1) ∧ w'.cell? ⟨gd, 1, none⟩ = some (Value.slice none 0 0) ∧ QY w5 [(gp, 0, (Value.string ⟨#[105, 102]⟩)), (gp, 1, (Value.string ⟨#[66, 111, 111, 108, 101, 97, 110]⟩)), (gp, 2, (Value.int .i64 0)), (gp, 3, (Value.int .i64 1)), (gd, 0, (Value.slice (some ⟨w2.heap.size + 1 + 1, 0, none⟩) 1 1)), (gd, 1, (Value.slice none 0 0))] w')) (by kernel_rfl) (yq_written (HE.out.next HL.out (Below.drew (Below.refl _ _)))) (fun hHeld => ?_)
  refine wpAnyH_take (i := 0) (oi := _) (v := ?_) rfl (by kernel_rfl) (by kernel_rfl) (by kernel_rfl) (fun _ _ _ h => h) (Or.inl ⟨by rfl, ?_⟩) (by assumption) ?_
  rotate_left
  · (intro w hSw; (try dsimp only at hSw); go_simp; try with_reducible rfl)
  try simp only [Act.put, List.getElem_toArray, List.getElem_cons_zero, List.setIfInBounds_toArray, List.set_cons_zero, List.set_cons_succ]
  refine wpAnyH_take (i := 1) (oi := _) (v := ?_) rfl (by kernel_rfl) (by kernel_rfl) (by kernel_rfl) (fun _ _ _ h => h) (Or.inl ⟨by rfl, ?_⟩) (by assumption) ?_
  rotate_left
  · (intro w hSw; (try dsimp only at hSw); go_simp; try with_reducible rfl)
  try simp only [Act.put, List.getElem_toArray, List.getElem_cons_zero, List.getElem_cons_succ, List.setIfInBounds_toArray, List.set_cons_zero, List.set_cons_succ]
  refine wpAnyH_take (i := 2) (oi := _) (v := ?_) rfl (by kernel_rfl) (by kernel_rfl) (by kernel_rfl) (fun _ _ _ h => h) (Or.inl ⟨by rfl, ?_⟩) (by assumption) ?_
  rotate_left
  · (intro w hSw; (try dsimp only at hSw); go_simp; try with_reducible rfl)
  try simp only [Act.put, List.getElem_toArray, List.getElem_cons_zero, List.getElem_cons_succ, List.setIfInBounds_toArray, List.set_cons_zero, List.set_cons_succ]
  refine wpAnyH_take (i := 3) (oi := _) (v := ?_) rfl (by kernel_rfl) (by kernel_rfl) (by kernel_rfl) (fun _ _ _ h => h) (Or.inl ⟨by rfl, ?_⟩) (by assumption) ?_
  rotate_left
  · (intro w hSw; (try dsimp only at hSw); go_simp; try with_reducible rfl)
  try simp only [Act.put, List.getElem_toArray, List.getElem_cons_zero, List.getElem_cons_succ, List.setIfInBounds_toArray, List.set_cons_zero, List.set_cons_succ]
  refine wpAnyH_take (i := 4) (oi := _) (v := ?_) rfl (by kernel_rfl) (by kernel_rfl) (by kernel_rfl) (fun _ _ _ h => h) (Or.inl ⟨by rfl, ?_⟩) (by assumption) ?_
  rotate_left
  · (intro w hSw; (try dsimp only at hSw); go_simp; try with_reducible rfl)
  try simp only [Act.put, List.getElem_toArray, List.getElem_cons_zero, List.getElem_cons_succ, List.setIfInBounds_toArray, List.set_cons_zero, List.set_cons_succ]
  refine wpAnyH_take (i := 5) (oi := _) (v := ?_) rfl (by kernel_rfl) (by kernel_rfl) (by kernel_rfl) (fun _ _ _ h => h) (Or.inl ⟨by rfl, ?_⟩) (by assumption) ?_
  rotate_left
  · (intro w hSw; (try dsimp only at hSw); go_simp; try with_reducible rfl)
  try simp only [Act.put, List.getElem_toArray, List.getElem_cons_zero, List.getElem_cons_succ, List.setIfInBounds_toArray, List.set_cons_zero, List.set_cons_succ]
  refine wpAnyH_take (i := 6) (oi := _) (v := ?_) rfl (by kernel_rfl) (by kernel_rfl) (by kernel_rfl) (fun _ _ _ h => h) (Or.inl ⟨by rfl, ?_⟩) (by assumption) ?_
  rotate_left
  · (intro w hSw; (try dsimp only at hSw); go_simp; try with_reducible rfl)
  try simp only [Act.put, List.getElem_toArray, List.getElem_cons_zero, List.getElem_cons_succ, List.setIfInBounds_toArray, List.set_cons_zero, List.set_cons_succ]
  refine wpAnyH_take (i := 7) (oi := _) (v := ?_) rfl (by kernel_rfl) (by kernel_rfl) (by kernel_rfl) (fun _ _ _ h => h) (Or.inl ⟨by rfl, ?_⟩) (by assumption) ?_
  rotate_left
  · (intro w hSw; (try dsimp only at hSw); go_simp; try with_reducible rfl)
  try simp only [Act.put, List.getElem_toArray, List.getElem_cons_zero, List.getElem_cons_succ, List.setIfInBounds_toArray, List.set_cons_zero, List.set_cons_succ]
  refine wpAnyH_take (i := 8) (oi := _) (v := ?_) rfl (by kernel_rfl) (by kernel_rfl) (by kernel_rfl) (fun _ _ _ h => h) (Or.inl ⟨by rfl, ?_⟩) (by assumption) ?_
  rotate_left
  · (intro w hSw; (try dsimp only at hSw); go_simp; try with_reducible rfl)
  try simp only [Act.put, List.getElem_toArray, List.getElem_cons_zero, List.getElem_cons_succ, List.setIfInBounds_toArray, List.set_cons_zero, List.set_cons_succ]
  refine wpAnyH_take (i := 9) (oi := _) (v := ?_) rfl (by kernel_rfl) (by kernel_rfl) (by kernel_rfl) (fun _ _ _ h => h) (Or.inl ⟨by rfl, ?_⟩) (by assumption) ?_
  rotate_left
  · (intro w hSw; (try dsimp only at hSw); go_simp; try with_reducible rfl)
  try simp only [Act.put, List.getElem_toArray, List.getElem_cons_zero, List.getElem_cons_succ, List.setIfInBounds_toArray, List.set_cons_zero, List.set_cons_succ]
  refine wpAnyH_take (i := 10) (oi := _) (v := ?_) rfl (by kernel_rfl) (by kernel_rfl) (by kernel_rfl) (fun _ _ _ h => h) (Or.inl ⟨by rfl, ?_⟩) (by assumption) ?_
  rotate_left
  · (intro w hSw; (try dsimp only at hSw); go_simp; try with_reducible rfl)
  try simp only [Act.put, List.getElem_toArray, List.getElem_cons_zero, List.getElem_cons_succ, List.setIfInBounds_toArray, List.set_cons_zero, List.set_cons_succ]
  refine wpAnyH_take (i := 11) (oi := _) (v := ?_) rfl (by kernel_rfl) (by kernel_rfl) (by kernel_rfl) (fun _ _ _ h => h) (Or.inl ⟨by rfl, ?_⟩) (by assumption) ?_
  rotate_left
  · (intro w hSw; (try dsimp only at hSw); go_simp; try with_reducible rfl)
  try simp only [Act.put, List.getElem_toArray, List.getElem_cons_zero, List.getElem_cons_succ, List.setIfInBounds_toArray, List.set_cons_zero, List.set_cons_succ]
  refine wpAnyH_take (i := 12) (oi := _) (v := ?_) rfl (by kernel_rfl) (by kernel_rfl) (by kernel_rfl) (fun _ _ _ h => h) (Or.inl ⟨by rfl, ?_⟩) (by assumption) ?_
  rotate_left
  · (intro w hSw; (try dsimp only at hSw); go_simp; try with_reducible rfl)
  try simp only [Act.put, List.getElem_toArray, List.getElem_cons_zero, List.getElem_cons_succ, List.setIfInBounds_toArray, List.set_cons_zero, List.set_cons_succ]
  refine wpAnyH_take (i := 14) (oi := _) (v := ?_) rfl (by kernel_rfl) (by kernel_rfl) (by kernel_rfl) (fun _ _ _ h => h) (Or.inl ⟨by rfl, ?_⟩) (by assumption) ?_
  rotate_left
  · (intro w hSw; (try dsimp only at hSw); go_simp; try with_reducible rfl)
  try simp only [Act.put, List.getElem_toArray, List.getElem_cons_zero, List.getElem_cons_succ, List.setIfInBounds_toArray, List.set_cons_zero, List.set_cons_succ]
  refine wpAnyH_ready (rs := [13]) (by kernel_rfl) (by simp) ?_
  refine AllReadyH.cons (o := _) rfl (fun K hK => ?_) AllReadyH.nil
  go_simp
  refine (dworld_any _).mono ?_
  rintro e w' ⟨⟨s0, s1, s2, rfl⟩, hb⟩
  have HBN := Lib.hid hb
  go_wp2_with fail
  refine hK.out _ _ (yq_written (QY.next (yq_last (by assumption)) HL.out HBN.out)) (fun hHeld => ?_)
  clear hK K
  try simp only [Act.put, List.getElem_toArray, List.getElem_cons_zero, List.getElem_cons_succ, List.setIfInBounds_toArray, List.set_cons_zero, List.set_cons_succ]
  refine wpAnyH_ready (rs := [15]) (by kernel_rfl) (by simp) ?_
  refine AllReadyH.cons (o := _) rfl (fun K hK => ?_) AllReadyH.nil
  go_simp
  refine (y12_any _ _ _ _ _ _ B (Nat.le_trans S5.out (Below.size (by first | exact yq_held (by assumption) | exact Below.drew (Below.refl _ _)))) (D5.out.below (Below.mono (by first | exact yq_held (by assumption) | exact Below.drew (Below.refl _ _)) S5.out))).mono ?_
  rintro e w' ⟨rfl, hb⟩
  have HBN := Lib.hid hb
  go_wp2_with fail
  refine hK.out _ _ (yq_written (QY.next (yq_last (by assumption)) HL.out HBN.out)) (fun hHeld => ?_)
  clear hK K
  try simp only [Act.put, List.getElem_toArray, List.getElem_cons_zero, List.getElem_cons_succ, List.setIfInBounds_toArray, List.set_cons_zero, List.set_cons_succ]
  refine wpAnyH_take (i := 16) (oi := _) (v := ?_) rfl (by kernel_rfl) (by kernel_rfl) (by kernel_rfl) (fun _ _ _ h => h) (Or.inl ⟨by rfl, ?_⟩) (by assumption) ?_
  rotate_left
  · (intro w hSw; (try dsimp only at hSw); go_simp; try with_reducible rfl)
  try simp only [Act.put, List.getElem_toArray, List.getElem_cons_zero, List.getElem_cons_succ, List.setIfInBounds_toArray, List.set_cons_zero, List.set_cons_succ]
  refine wpAnyH_take (i := 17) (oi := _) (v := ?_) rfl (by kernel_rfl) (by kernel_rfl) (by kernel_rfl) (fun _ _ _ h => h) (Or.inl ⟨by rfl, ?_⟩) (by assumption) ?_
  rotate_left
  · (intro w hSw; (try dsimp only at hSw); go_simp; try with_reducible rfl)
  try simp only [Act.put, List.getElem_toArray, List.getElem_cons_zero, List.getElem_cons_succ, List.setIfInBounds_toArray, List.set_cons_zero, List.set_cons_succ]
  refine wpAnyH_take (i := 19) (oi := _) (v := ?_) rfl (by kernel_rfl) (by kernel_rfl) (by kernel_rfl) (fun _ _ _ h => h) (Or.inl ⟨by rfl, ?_⟩) (by assumption) ?_
  rotate_left
  · (intro w hSw; (try dsimp only at hSw); go_simp; try with_reducible rfl)
  try simp only [Act.put, List.getElem_toArray, List.getElem_cons_zero, List.getElem_cons_succ, List.setIfInBounds_toArray, List.set_cons_zero, List.set_cons_succ]
  refine wpAnyH_ready (rs := [18]) (by kernel_rfl) (by simp) ?_
  refine AllReadyH.cons (o := _) rfl (fun K hK => ?_) AllReadyH.nil
  go_simp
  refine (dworld_any _).mono ?_
  rintro e w' ⟨⟨s0, s1, s2, rfl⟩, hb⟩
  have HBN := Lib.hid hb
  go_wp2_with fail
  refine hK.out _ _ (yq_written (QY.next (yq_last (by assumption)) HL.out HBN.out)) (fun hHeld => ?_)
  clear hK K
  try simp only [Act.put, List.getElem_toArray, List.getElem_cons_zero, List.getElem_cons_succ, List.setIfInBounds_toArray, List.set_cons_zero, List.set_cons_succ]
  refine wpAnyH_ready (rs := [20]) (by kernel_rfl) (by simp) ?_
  refine AllReadyH.cons (o := _) rfl (fun K hK => ?_) AllReadyH.nil
  go_simp
  refine (y14_any _ _ _ _ _ _ B (Nat.le_trans S5.out (Below.size (by first | exact yq_held (by assumption) | exact Below.drew (Below.refl _ _)))) (D5.out.below (Below.mono (by first | exact yq_held (by assumption) | exact Below.drew (Below.refl _ _)) S5.out))).mono ?_
  rintro e w' ⟨rfl, hb⟩
  have HBN := Lib.hid hb
  go_wp2_with fail
  refine hK.out _ _ (yq_written (QY.next (yq_last (by assumption)) HL.out HBN.out)) (fun hHeld => ?_)
  clear hK K
  try simp only [Act.put, List.getElem_toArray, List.getElem_cons_zero, List.getElem_cons_succ, List.setIfInBounds_toArray, List.set_cons_zero, List.set_cons_succ]
  refine wpAnyH_take (i := 21) (oi := _) (v := ?_) rfl (by kernel_rfl) (by kernel_rfl) (by kernel_rfl) (fun _ _ _ h => h) (Or.inl ⟨by rfl, ?_⟩) (by assumption) ?_
  rotate_left
  · (intro w hSw; (try dsimp only at hSw); go_simp; try with_reducible rfl)
  try simp only [Act.put, List.getElem_toArray, List.getElem_cons_zero, List.getElem_cons_succ, List.setIfInBounds_toArray, List.set_cons_zero, List.set_cons_succ]
  refine wpAnyH_take (i := 22) (oi := _) (v := ?_) rfl (by kernel_rfl) (by kernel_rfl) (by kernel_rfl) (fun _ _ _ h => h) (Or.inl ⟨by rfl, ?_⟩) (by assumption) ?_
  rotate_left
  · (intro w hSw; (try dsimp only at hSw); go_simp; try with_reducible rfl)
  try simp only [Act.put, List.getElem_toArray, List.getElem_cons_zero, List.getElem_cons_succ, List.setIfInBounds_toArray, List.set_cons_zero, List.set_cons_succ]
  refine wpAnyH_take (i := 23) (oi := _) (v := ?_) rfl (by kernel_rfl) (by kernel_rfl) (by kernel_rfl) (fun _ _ _ h => h) (Or.inl ⟨by rfl, ?_⟩) (by assumption) ?_
  rotate_left
  · (intro w hSw; (try dsimp only at hSw); go_simp; try with_reducible rfl)
  try simp only [Act.put, List.getElem_toArray, List.getElem_cons_zero, List.getElem_cons_succ, List.setIfInBounds_toArray, List.set_cons_zero, List.set_cons_succ]
  refine wpAnyH_done (by kernel_rfl) ?_ _
  have C9 := Lib.hid (C5.out.trans ((yq_held hHeld).mono C5.out.size))
  clear hHeld
  go_wp2_with fail
  go_ret
  exact ⟨rfl, C9.out⟩
end Go.Proofs.Ytgihnhdknphhpaa
