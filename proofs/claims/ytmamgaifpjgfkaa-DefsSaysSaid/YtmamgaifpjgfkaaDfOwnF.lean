/- defs.ownField. -/
import Derived.Test.YtmamgaifpjgfkaaDfEachD
namespace Go.Proofs.Ytmamgaifpjgfkaa
open Go.RowKit

theorem fld_cells {w : World} {P : Nat → Prop} {x : FieldT} {cs : List Value} (h : TS w P (encField x) cs) :
    ∃ Ap kp Ad kd, cs = [.string x.name, .slice Ap x.params.length kp, .string x.tn, .int .i64 x.tl, .int .i64 x.tm, .slice Ad x.dirs.length kd] ∧ (x.name.size ≤ 9223372036854775807 ∧ x.tn.size ≤ 9223372036854775807) ∧ (x.params.length ≤ 9223372036854775807 ∧ RowT w P (rowOf encVar x.params) Ap) ∧ x.dirs.length ≤ 9223372036854775807 ∧ RowT w P (rowOf encD x.dirs) Ad := by
  simp only [encField, TS, TP] at h
  obtain ⟨c0, _, rfl, ⟨rfl, h0⟩, c1, _, rfl, ⟨Ap, kp, rfl, l1, h1⟩, c2, _, rfl, ⟨rfl, h2⟩, c3, _, rfl, ⟨rfl, _⟩, c4, _, rfl, ⟨rfl, _⟩, c5, _, rfl, ⟨Ad, kd, rfl, l5, h5⟩, rfl⟩ := h
  simp only [rowOf_len] at *
  exact ⟨Ap, kp, Ad, kd, rfl, ⟨h0, h2⟩, ⟨l1, h1⟩, l5, h5⟩
theorem fld_ts {w : World} {P : Nat → Prop} {x : FieldT} {Ap Ad : Option Addr} {kp kd : Nat} (h0 : x.name.size ≤ 9223372036854775807 ∧ x.tn.size ≤ 9223372036854775807) (l1 : x.params.length ≤ 9223372036854775807) (l5 : x.dirs.length ≤ 9223372036854775807) (h1 : RowT w P (rowOf encVar x.params) Ap) (h5 : RowT w P (rowOf encD x.dirs) Ad) :
    TS w P (encField x) [.string x.name, .slice Ap x.params.length kp, .string x.tn, .int .i64 x.tl, .int .i64 x.tm, .slice Ad x.dirs.length kd] := by
  simp only [encField, TS, TP]
  exact ⟨_, _, rfl, ⟨rfl, h0.1⟩, _, _, rfl, ⟨Ap, kp, by rw [rowOf_len], by rw [rowOf_len]; exact l1, h1⟩, _, _, rfl, ⟨rfl, h0.2⟩, _, _, rfl, ⟨rfl, trivial⟩, _, _, rfl, ⟨rfl, trivial⟩, _, _, rfl, ⟨Ad, kd, by rw [rowOf_len], by rw [rowOf_len]; exact l5, h5⟩, rfl⟩
theorem ret_fld {R : Ending → World → Prop} {fn : Func} {a : Act} {W : World} {c0 c1 c2 c3 c4 c5 : Value} {p b : Nat} (hf : fn.results = #[.cell p 46]) (h2 : a.tmps.getD p undef = .pointer (some ⟨b, 0, none⟩)) (hd : a.defers = [])
    (hc : W.heap[b]? = some (.cells #[c0, c1, c2, c3, c4, c5] 46 (0, 0))) (hR : R (.returned (.agg #[c0, c1, c2, c3, c4, c5])) W) : bodyPost Try.prog fn R .ret a W := by
  have hl : (loadVar 46 ⟨b, 0, none⟩).run Try.prog W = .ok (.agg #[c0, c1, c2, c3, c4, c5]) W :=
    run_loadVar_row W b 46 46 #[c0, c1, c2, c3, c4, c5] (0, 0) _ hc Try.underlying46 rfl (by kernel_rfl)
  refine bodyPost_ret ?_ hd hR
  have h2' : a.tmps[p]?.getD undef = .pointer (some ⟨b, 0, none⟩) := by rw [← h2]; simp
  simp [results, hf, h2', asAddr, hl]
theorem six_heap {w : World} {b k : Nat} {c0 c1 c2 c3 c4 c5 : Value} (h : k ≠ b) : ((((((w.setCell ⟨b, 0, none⟩ c0).setCell ⟨b, 1, none⟩ c1).setCell ⟨b, 2, none⟩ c2).setCell ⟨b, 3, none⟩ c3).setCell ⟨b, 4, none⟩ c4).setCell ⟨b, 5, none⟩ c5).heap[k]? = w.heap[k]? :=
  (Below.heap_setCell _ _ _ _ h).trans ((Below.heap_setCell _ _ _ _ h).trans ((Below.heap_setCell _ _ _ _ h).trans ((Below.heap_setCell _ _ _ _ h).trans ((Below.heap_setCell _ _ _ _ h).trans (Below.heap_setCell _ _ _ _ h)))))
/-- A field of one's own. -/
def OwnF (x : FieldT) (P : Nat → Prop) (w : World) (e : Ending) (w' : World) : Prop := ∃ Ap kp Ad kd, e = .returned (.agg #[.string x.name, .slice Ap x.params.length kp, .string x.tn, .int .i64 x.tl, .int .i64 x.tm, .slice Ad x.dirs.length kd]) ∧
  TS w' (OwnP P w.heap.size w') (encField x) [.string x.name, .slice Ap x.params.length kp, .string x.tn, .int .i64 x.tl, .int .i64 x.tm, .slice Ad x.dirs.length kd] ∧ Below w.heap.size w w'
set_option maxRecDepth 100000 in
set_option maxHeartbeats 8000000 in
theorem ownfld_any (x : FieldT) (c0 c1 c2 c3 c4 c5 : Value) (w : World) (P : Nat → Prop) (hP : ∀ b, P b → b < w.heap.size) (hz : SlimF x) (hT : TS w P (encField x) [c0, c1, c2, c3, c4, c5]) :
    Calls Try.prog 43 #[.agg #[c0, c1, c2, c3, c4, c5]] w (OwnF x P w) := by
  obtain ⟨Ap, kp, Ad, kd, e, hn, ⟨l1, h1⟩, l5, h5⟩ := fld_cells hT
  simp only [List.cons.injEq, and_true] at e
  obtain ⟨rfl, rfl, rfl, rfl, rfl, rfl⟩ := e
  obtain ⟨n, ps, tn, tl, tm, ds⟩ := x
  have HNL := Lib.hid (And.intro hn (And.intro l1 l5))
  have C := Lib.hid (fun (wx : World) (hb : Below w.heap.size w wx) => clone_par ps Ap kp wx P (fun b h => Nat.lt_of_lt_of_le (hP b h) hb.size) hz.1 (RowT.keep (fun b h => ⟨h, hb.block b (hP b h)⟩) _ _ h1))
  have D := Lib.hid (fun (wx : World) (hb : Below w.heap.size w wx) => eachD_any ds Ad kd wx P (fun b h => Nat.lt_of_lt_of_le (hP b h) hb.size) hz.2.1 hz.2.2 (RowT.keep (fun b h => ⟨h, hb.block b (hP b h)⟩) _ _ h5))
  have B0 := Lib.hid (fun o o' => two_below w o o')
  have X0 := Lib.hid (And.intro ((Below.heap_alloc (w.alloc (.cells #[.string n, .slice Ap ps.length kp, .string tn, .int .i64 tl, .int .i64 tm, .slice Ad ds.length kd] 46)) (.cells #[.string ⟨#[]⟩, .slice none 0 0, .string ⟨#[]⟩, .int .i64 0, .int .i64 0, .slice none 0 0] 46) w.heap.size (by simp)).trans (heap_alloc_new w (.cells #[.string n, .slice Ap ps.length kp, .string tn, .int .i64 tl, .int .i64 tm, .slice Ad ds.length kd] 46))) (heap_two w (.cells #[.string n, .slice Ap ps.length kp, .string tn, .int .i64 tl, .int .i64 tm, .slice Ad ds.length kd] 46) (.cells #[.string ⟨#[]⟩, .slice none 0 0, .string ⟨#[]⟩, .int .i64 0, .int .i64 0, .slice none 0 0] 46)))
  clear hz hT hn h1 h5 l1 l5
  go_enter Try.func43, Try.ntmps43
  go_wp2_with fail
  refine (C.out _ (B0.out _ _)).mono ?_
  rintro e w1 h1
  obtain ⟨A1, k1, rfl, hr1, hb1⟩ := cloned_row h1 (rowOf_len _ _) (fun b h => Nat.lt_of_lt_of_le (hP b h) (B0.out _ _).size)
  rw [two_size] at hr1
  have x1 := (hb1.block w.heap.size (by simp; omega)).trans X0.out.1
  have x2 := (hb1.block (w.heap.size + 1) (by simp)).trans X0.out.2
  have hs1 : w.heap.size + 2 ≤ w1.heap.size := by have := hb1.size; rwa [two_size] at this
  have B1 := Lib.hid ((B0.out _ _).trans (hb1.mono (B0.out _ _).size))
  have R1 := Lib.hid hr1
  have HX := Lib.hid (And.intro x1 x2)
  obtain ⟨⟨y0, y1, y2, y3, y4, y5⟩, v0, v1, v2, v3, v4, v5⟩ := six_cells x1
  clear h1 hr1 hb1 x1 x2 C X0
  go_upto_region 2 with fail
  clear y0 y1 y2 y3 y4 y5 v0 v1 v2 v3 v4 v5
  have hne0 : ∀ b, OwnP P (w.heap.size + 2) w1 b → b ≠ w.heap.size := fun b hb => hb.ne hP (by omega)
  have x1 : (w1.setCell ⟨w.heap.size, 1, none⟩ (.slice A1 ps.length k1)).heap[w.heap.size]? = some (.cells #[.string n, .slice A1 ps.length k1, .string tn, .int .i64 tl, .int .i64 tm, .slice Ad ds.length kd] 46 (0, 0)) := by simp [World.setCell, Array.getElem?_modify, HX.out.1]
  have x2 : (w1.setCell ⟨w.heap.size, 1, none⟩ (.slice A1 ps.length k1)).heap[w.heap.size + 1]? = _ := (Below.heap_setCell _ _ _ _ (Nat.succ_ne_self _)).trans HX.out.2
  have B2 := Lib.hid (B1.out.setCell (p := ⟨w.heap.size, 1, none⟩) (Nat.le_refl _) (.slice A1 ps.length k1))
  have R2 := Lib.hid (R1.out.own (w' := w1.setCell ⟨w.heap.size, 1, none⟩ (.slice A1 ps.length k1)) (by simp [World.setCell]) (Nat.le_refl _) (fun b hb => Below.heap_setCell _ _ _ _ (hne0 b hb)))
  have hs2 : w.heap.size + 2 ≤ (w1.setCell ⟨w.heap.size, 1, none⟩ (.slice A1 ps.length k1)).heap.size := by simpa [World.setCell] using hs1
  generalize w1.setCell ⟨w.heap.size, 1, none⟩ (.slice A1 ps.length k1) = wz at x1 x2 B2 R2 hs2 ⊢
  clear R1 B1 hs1 hne0 HX
  obtain ⟨⟨y0, y1, y2, y3, y4, y5⟩, v0, v1, v2, v3, v4, v5⟩ := six_cells x1
  have HX2 := Lib.hid (And.intro x1 x2)
  clear x1 x2
  go_wp2_with fail
  refine (D.out _ B2.out).mono ?_
  rintro e w3 ⟨A3, k3, rfl, hr3, hb3⟩
  have x1 := (hb3.block w.heap.size (by omega)).trans HX2.out.1
  have x2 := (hb3.block (w.heap.size + 1) (by omega)).trans HX2.out.2
  have B3 := Lib.hid (B2.out.trans (hb3.mono B2.out.size))
  have R3 := Lib.hid (R2.out.own (w' := w3) hb3.size (Nat.le_refl _) (fun b hb => hb3.block b hb.1))
  have Q3 := Lib.hid (hr3.own (w' := w3) (K' := w.heap.size + 2) (Nat.le_refl _) hs2 (fun b hb => rfl))
  have hs3 := Nat.le_trans hs2 hb3.size
  have HX := Lib.hid (And.intro x1 x2)
  clear y0 y1 y2 y3 y4 y5 v0 v1 v2 v3 v4 v5 hr3 hb3 R2 B2 HX2 D
  obtain ⟨⟨y0, y1, y2, y3, y4, y5⟩, v0, v1, v2, v3, v4, v5⟩ := six_cells x1
  clear x1 x2
  go_upto_region 3 with fail
  clear y0 y1 y2 y3 y4 y5 v0 v1 v2 v3 v4 v5
  have hne0 : ∀ b, OwnP P (w.heap.size + 2) w3 b → b ≠ w.heap.size := fun b hb => hb.ne hP (by omega)
  have x1 : (w3.setCell ⟨w.heap.size, 5, none⟩ (.slice A3 ds.length k3)).heap[w.heap.size]? = some (.cells #[.string n, .slice A1 ps.length k1, .string tn, .int .i64 tl, .int .i64 tm, .slice A3 ds.length k3] 46 (0, 0)) := by simp [World.setCell, Array.getElem?_modify, HX.out.1]
  have x2 : (w3.setCell ⟨w.heap.size, 5, none⟩ (.slice A3 ds.length k3)).heap[w.heap.size + 1]? = _ := (Below.heap_setCell _ _ _ _ (Nat.succ_ne_self _)).trans HX.out.2
  have B4 := Lib.hid (B3.out.setCell (p := ⟨w.heap.size, 5, none⟩) (Nat.le_refl _) (.slice A3 ds.length k3))
  have R4 := Lib.hid (R3.out.own (w' := w3.setCell ⟨w.heap.size, 5, none⟩ (.slice A3 ds.length k3)) (by simp [World.setCell]) (Nat.le_refl _) (fun b hb => Below.heap_setCell _ _ _ _ (hne0 b hb)))
  have Q4 := Lib.hid (Q3.out.own (w' := w3.setCell ⟨w.heap.size, 5, none⟩ (.slice A3 ds.length k3)) (by simp [World.setCell]) (Nat.le_refl _) (fun b hb => Below.heap_setCell _ _ _ _ (hne0 b hb)))
  generalize w3.setCell ⟨w.heap.size, 5, none⟩ (.slice A3 ds.length k3) = wy at x1 x2 B4 R4 Q4 ⊢
  clear R3 Q3 B3 hne0 HX hs3
  obtain ⟨⟨y0, y1, y2, y3, y4, y5⟩, _⟩ := six_cells x1
  obtain ⟨⟨z0, z1, z2, z3, z4, z5⟩, v0, v1, v2, v3, v4, v5⟩ := six_cells x2
  have HX := Lib.hid x2
  clear x1 x2
  go_wp2_with fail
  refine ret_fld rfl rfl rfl (six_set HX.out) ?_
  have hne : ∀ b, OwnP P (w.heap.size + 2) wy b → b ≠ w.heap.size + 1 := fun b hb => hb.ne (fun b h => Nat.lt_succ_of_lt (hP b h)) (by omega)
  have hkp : ∀ b, OwnP P (w.heap.size + 2) wy b → ((((((wy.setCell ⟨w.heap.size + 1, 0, none⟩ (.string n)).setCell ⟨w.heap.size + 1, 1, none⟩ (.slice A1 ps.length k1)).setCell ⟨w.heap.size + 1, 2, none⟩ (.string tn)).setCell ⟨w.heap.size + 1, 3, none⟩ (.int .i64 tl)).setCell ⟨w.heap.size + 1, 4, none⟩ (.int .i64 tm)).setCell ⟨w.heap.size + 1, 5, none⟩ (.slice A3 ds.length k3)).heap[b]? = wy.heap[b]? := fun b hb =>
    six_heap (hne b hb)
  exact ⟨A1, k1, A3, k3, rfl, fld_ts HNL.out.1 HNL.out.2.1 HNL.out.2.2 (R4.out.own (by simp [World.setCell]) (by omega) hkp) (Q4.out.own (by simp [World.setCell]) (by omega) hkp), six_low (b := w.heap.size + 1) B4.out (Nat.le_succ _)⟩
end Go.Proofs.Ytmamgaifpjgfkaa
