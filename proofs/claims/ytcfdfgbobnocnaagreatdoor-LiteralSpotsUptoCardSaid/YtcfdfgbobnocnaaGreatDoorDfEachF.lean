/- defs.ownEach over FieldDef. (gen_each.py wrote it.) -/
import Derived.Test.YtcfdfgbobnocnaaGreatDoorDfOwn
namespace Go.Proofs.YtcfdfgbobnocnaaGreatDoor
open Go.RowKit

theorem eachD_at {w : World} {P : Nat → Prop} {K g : Nat} {l : List DirT} {q : Nat} {x : DirT} (h : RowAt encD 2 98 P K g l w) (hx : l[q]? = some x) :
    ∃ c0 c1, TS w (fun b => OwnP P K w b ∧ b ≠ g) (encD x) [c0, c1] ∧ (w.cell? ⟨g, q * 2, none⟩ = some c0 ∧ w.cell? ⟨g, q * 2 + 1, none⟩ = some c1) ∧ w.frozen? ⟨g, q * 2, none⟩ = false ∧ w.frozen? ⟨g, q * 2 + 1, none⟩ = false := by
  obtain ⟨⟨cur, h1, h2⟩, h3⟩ := h
  obtain ⟨cs, h4, h5⟩ := h3 q x hx
  have hl : cs.length = 2 := by rw [h4.len, len_dir]
  have hq : q < l.length := (List.getElem?_eq_some_iff.1 hx).1
  match cs, hl with
  | [c0, c1], _ => exact ⟨c0, c1, h4, ⟨h5 0 _ rfl, h5 1 _ rfl⟩, cells_frozen h1 _, cells_frozen h1 _⟩
/-- Each one of one's own. -/
def EachD (l : List DirT) (P : Nat → Prop) (w : World) (e : Ending) (w' : World) : Prop := ∃ A c, e = .returned (.slice A l.length c) ∧ RowT w' (OwnP P w.heap.size w') (rowOf encD l) A ∧ Below w.heap.size w w'
set_option maxRecDepth 100000 in
set_option maxHeartbeats 8000000 in
theorem eachD_any (l : List DirT) (A : Option Addr) (c : Nat) (w : World) (P : Nat → Prop) (hP : ∀ b, P b → b < w.heap.size) (hz : l.length * 40 ≤ 140737488355328) (hs : ∀ x, x ∈ l → x.2.len * 96 ≤ 140737488355328) (hR : RowT w P (rowOf encD l) A) :
    Calls Tryz.prog 97 #[.slice A l.length c, .func (.func 98) #[] #[]] w (EachD l P w) := by
  have C := Lib.hid (clone_dir l A c w P hP hz hR)
  have hn : l.length ≤ 9223372036854775807 := by omega
  clear hz hR
  by_cases hp : 0 < l.length
  · go_enter Tryz.func97, Tryz.ntmps97
    go_wp2_with fail
    refine C.out.mono ?_
    rintro e w1 ⟨V, xs, rfl, h1, h2, h3⟩
    obtain ⟨g, c', rfl, hKg, hA⟩ := RowAt.start len_dir h1 h2 hP h3.size rfl hp
    have B1 := Lib.hid h3
    have HA := Lib.hid hA
    clear h1 h2 h3 hA C
    go_wp2_with fail
    go_loopg [12] l.length (fun gk i wx => ∃ q : Nat, q + gk = l.length ∧ i = .int .i64 q ∧ Aside (RowAt encD 2 98 P w.heap.size g l wx ∧ Below w.heap.size w wx))
    case atStart => exact ⟨0, by omega, rfl, Blk.Aside.intro ⟨HA.out, B1.out⟩⟩
    case round =>
      obtain ⟨q, hq, rfl, HX⟩ := hrel
      obtain ⟨hA, hb⟩ := HX.out
      have HAX := Lib.hid hA
      have HBB := Lib.hid hb
      clear HX hA hb HA
      cases gk with
      | zero =>
        obtain rfl : q = l.length := by omega
        go_wp2_with fail
        go_ret
        exact ⟨some ⟨g, 0, none⟩, c', rfl, HAX.out.row len_dir hKg, HBB.out⟩
      | succ gg =>
        have hqn : q < l.length := by omega
        have hqn' : (q : Int) < (l.length : Int) := by omega
        obtain ⟨x, hx⟩ : ∃ x, l[q]? = some x := ⟨_, List.getElem?_eq_getElem hqn⟩
        obtain ⟨c0, c1, hT, ⟨g0, g1⟩, f0, f1⟩ := eachD_at HAX.out hx
        have hsl := Lib.hid (hs x (List.mem_of_getElem? hx))
        have HT := Lib.hid hT
        have HXX := Lib.hid hx
        have hgl := HAX.out.lt
        have hso := HBB.out.size
        obtain ⟨A2, k2, e, _⟩ := dir_cells hT
        simp only [List.cons.injEq, and_true] at e
        obtain ⟨rfl, rfl⟩ := e
        have hC := Lib.hid (fun o => owndir_any x (.string x.1) (.slice A2 x.2.len k2) (wr.alloc o) (fun b => OwnP P w.heap.size wr b ∧ b ≠ g) (fun b h => Nat.lt_of_lt_of_le h.1.1 (dbelow_new wr o).size) hsl.out (TS.keep (fun b h => ⟨h, (dbelow_new wr o).block b h.1.1⟩) _ _ HT.out))
        clear hT hx f0 f1
        go_wp2_with fail
        refine (hC.out _).mono ?_
        rintro e w2 ⟨A3, k3, rfl, hT3, hb3⟩
        have hb2 := (dbelow_new wr (.cells #[.string x.1, .slice A2 x.2.len k2] 98)).trans (hb3.mono (by simp))
        have A2' := Lib.hid (HAX.out.low hb2)
        have B2 := Lib.hid (HBB.out.trans (hb2.mono hso))
        have T2 := Lib.hid (TS.keep (P' := fun b => OwnP P w.heap.size w2 b ∧ b ≠ g) (fun b h => ⟨by
          rcases h.2 with h1 | h1
          · exact ⟨⟨h.1, h1.1.2⟩, h1.2⟩
          · have h4 : wr.heap.size + 1 ≤ b := by simpa using h1
            exact ⟨⟨h.1, .inr (by omega)⟩, by omega⟩, rfl⟩) _ _ hT3)
        obtain ⟨e0, e1, _, ⟨z0, z1⟩, y0, y1⟩ := eachD_at A2'.out HXX.out
        clear hT3 hb3 hb2 hC g0 g1
        go_wp2_with fail
        go_roundg gg
        case measure => omega
        case rel => exact ⟨q + 1, by omega, by go_num, Blk.Aside.intro ⟨A2'.out.set len_dir HXX.out T2.out, (B2.out.setCell (p := ⟨g, q * 2, none⟩) hKg _).setCell (p := ⟨g, q * 2 + 1, none⟩) hKg _⟩⟩
  · have h0 : l.length = 0 := by omega
    have HL := Lib.hid h0
    obtain rfl : l = [] := List.eq_nil_of_length_eq_zero h0
    clear h0 hp hs hn
    go_enter Tryz.func97, Tryz.ntmps97
    go_wp2_with fail
    refine C.out.mono ?_
    rintro e w1 h1
    obtain ⟨A1, c1, rfl, _, hb1⟩ := cloned_row h1 rfl hP
    have B1 := Lib.hid hb1
    clear h1 hb1 C
    go_wp2_with fail
    go_loopg [12] 0 (fun gk i wx => gk = 0 ∧ i = .int .i64 0 ∧ Below w.heap.size w wx)
    case atStart => exact ⟨rfl, rfl, B1.out⟩
    case round =>
      obtain ⟨rfl, rfl, hb⟩ := hrel
      have HBB := Lib.hid hb
      clear hb
      go_wp2_with fail
      go_ret
      exact ⟨A1, c1, rfl, by rw [rowOf]; unfold RowT; trivial, HBB.out⟩
end Go.Proofs.YtcfdfgbobnocnaaGreatDoor
namespace Go.Proofs.YtcfdfgbobnocnaaGreatDoor
open Go.RowKit

theorem fld_cells {w : World} {P : Nat → Prop} {x : FieldT} {cs : List Value} (h : TS w P (encField x) cs) :
    ∃ Ap kp Ad kd, cs = [.string x.name, .slice Ap x.params.length kp, .string x.tn, .int .i64 x.tl, .int .i64 x.tm, .slice Ad x.dirs.length kd] ∧ (x.name.size ≤ 9223372036854775807 ∧ x.tn.size ≤ 9223372036854775807) ∧ (x.params.length ≤ 9223372036854775807 ∧ RowT w P (rowOf encVar x.params) Ap) ∧ x.dirs.length ≤ 9223372036854775807 ∧ RowT w P (rowOf encD x.dirs) Ad := by
  simp only [encField, TS, TP] at h
  obtain ⟨c0, _, rfl, ⟨rfl, h0⟩, c1, _, rfl, ⟨Ap, kp, rfl, l1, h1⟩, c2, _, rfl, ⟨rfl, h2⟩, c3, _, rfl, ⟨rfl, _⟩, c4, _, rfl, ⟨rfl, _⟩, c5, _, rfl, ⟨Ad, kd, rfl, l5, h5⟩, rfl⟩ := h
  simp only [rowOf_len] at *
  exact ⟨Ap, kp, Ad, kd, rfl, ⟨h0, h2⟩, ⟨l1, h1⟩, l5, h5⟩
theorem fld_ts {w : World} {P : Nat → Prop} {x : FieldT} {Ap Ad : Option Addr} {kp kd : Nat} (h0 : x.name.size ≤ 9223372036854775807 ∧ x.tn.size ≤ 9223372036854775807) (l1 : x.params.length ≤ 9223372036854775807) (l5 : x.dirs.length ≤ 9223372036854775807) (h1 : RowT w P (rowOf encVar x.params) Ap) (h5 : RowT w P (rowOf encD x.dirs) Ad) :
    TS w P (encField x) [.string x.name, .slice Ap x.params.length kp, .string x.tn, .int .i64 x.tl, .int .i64 x.tm, .slice Ad x.dirs.length kd] := by
  simp only [encField, TS, TP]
  exact ⟨_, _, rfl, ⟨rfl, h0.1⟩, _, _, rfl, ⟨Ap, kp, by rw [rowOf_len], by rw [rowOf_len]; exact l1, h1⟩, _, _, rfl, ⟨rfl, h0.2⟩, _, _, rfl, ⟨rfl, trivial⟩, _, _, rfl, ⟨rfl, trivial⟩, _, _, rfl, ⟨Ad, kd, by rw [rowOf_len], by rw [rowOf_len]; exact l5, h5⟩, rfl⟩
theorem ret_fld {R : Ending → World → Prop} {fn : Func} {a : Act} {W : World} {c0 c1 c2 c3 c4 c5 : Value} {p b : Nat} (hf : fn.results = #[.cell p 84]) (h2 : a.tmps.getD p undef = .pointer (some ⟨b, 0, none⟩)) (hd : a.defers = [])
    (hc : W.heap[b]? = some (.cells #[c0, c1, c2, c3, c4, c5] 84 (0, 0))) (hR : R (.returned (.agg #[c0, c1, c2, c3, c4, c5])) W) : bodyPost Tryz.prog fn R .ret a W := by
  have hl : (loadVar 84 ⟨b, 0, none⟩).run Tryz.prog W = .ok (.agg #[c0, c1, c2, c3, c4, c5]) W :=
    run_loadVar_row W b 84 84 #[c0, c1, c2, c3, c4, c5] (0, 0) _ hc Tryz.underlying84 rfl (by kernel_rfl)
  refine bodyPost_ret ?_ hd hR
  have h2' : a.tmps[p]?.getD undef = .pointer (some ⟨b, 0, none⟩) := by rw [← h2]; simp
  simp [results, hf, h2', asAddr, hl]
theorem six_heap {w : World} {b k : Nat} {c0 c1 c2 c3 c4 c5 : Value} (h : k ≠ b) : ((((((w.setCell ⟨b, 0, none⟩ c0).setCell ⟨b, 1, none⟩ c1).setCell ⟨b, 2, none⟩ c2).setCell ⟨b, 3, none⟩ c3).setCell ⟨b, 4, none⟩ c4).setCell ⟨b, 5, none⟩ c5).heap[k]? = w.heap[k]? :=
  (Below.heap_setCell _ _ _ _ h).trans ((Below.heap_setCell _ _ _ _ h).trans ((Below.heap_setCell _ _ _ _ h).trans ((Below.heap_setCell _ _ _ _ h).trans ((Below.heap_setCell _ _ _ _ h).trans (Below.heap_setCell _ _ _ _ h)))))
/-- A field of one's own. -/
def OwnF (x : FieldT) (P : Nat → Prop) (w : World) (e : Ending) (w' : World) : Prop := ∃ Ap kp Ad kd, e = .returned (.agg #[.string x.name, .slice Ap x.params.length kp, .string x.tn, .int .i64 x.tl, .int .i64 x.tm, .slice Ad x.dirs.length kd]) ∧
  TS w' (OwnP P w.heap.size w') (encField x) [.string x.name, .slice Ap x.params.length kp, .string x.tn, .int .i64 x.tl, .int .i64 x.tm, .slice Ad x.dirs.length kd] ∧ Below w.heap.size w w'
set_option maxRecDepth 100000 in
set_option maxHeartbeats 8000000 in
theorem ownfld_any (x : FieldT) (c0 c1 c2 c3 c4 c5 : Value) (w : World) (P : Nat → Prop) (hP : ∀ b, P b → b < w.heap.size) (hz : SlimF x) (hT : TS w P (encField x) [c0, c1, c2, c3, c4, c5]) :
    Calls Tryz.prog 91 #[.agg #[c0, c1, c2, c3, c4, c5]] w (OwnF x P w) := by
  obtain ⟨Ap, kp, Ad, kd, e, hn, ⟨l1, h1⟩, l5, h5⟩ := fld_cells hT
  simp only [List.cons.injEq, and_true] at e
  obtain ⟨rfl, rfl, rfl, rfl, rfl, rfl⟩ := e
  obtain ⟨n, ps, tn, tl, tm, ds⟩ := x
  have HNL := Lib.hid (And.intro hn (And.intro l1 l5))
  have C := Lib.hid (fun (wx : World) (hb : Below w.heap.size w wx) => clone_par ps Ap kp wx P (fun b h => Nat.lt_of_lt_of_le (hP b h) hb.size) hz.1 (RowT.keep (fun b h => ⟨h, hb.block b (hP b h)⟩) _ _ h1))
  have D := Lib.hid (fun (wx : World) (hb : Below w.heap.size w wx) => eachD_any ds Ad kd wx P (fun b h => Nat.lt_of_lt_of_le (hP b h) hb.size) hz.2.1 hz.2.2 (RowT.keep (fun b h => ⟨h, hb.block b (hP b h)⟩) _ _ h5))
  have B0 := Lib.hid (fun o o' => two_below w o o')
  have X0 := Lib.hid (And.intro ((Below.heap_alloc (w.alloc (.cells #[.string n, .slice Ap ps.length kp, .string tn, .int .i64 tl, .int .i64 tm, .slice Ad ds.length kd] 84)) (.cells #[.string ⟨#[]⟩, .slice none 0 0, .string ⟨#[]⟩, .int .i64 0, .int .i64 0, .slice none 0 0] 84) w.heap.size (by simp)).trans (heap_alloc_new w (.cells #[.string n, .slice Ap ps.length kp, .string tn, .int .i64 tl, .int .i64 tm, .slice Ad ds.length kd] 84))) (heap_two w (.cells #[.string n, .slice Ap ps.length kp, .string tn, .int .i64 tl, .int .i64 tm, .slice Ad ds.length kd] 84) (.cells #[.string ⟨#[]⟩, .slice none 0 0, .string ⟨#[]⟩, .int .i64 0, .int .i64 0, .slice none 0 0] 84)))
  clear hz hT hn h1 h5 l1 l5
  go_enter Tryz.func91, Tryz.ntmps91
  go_wp2_with fail
  refine (C.out _ (B0.out _ _)).mono ?_
  rintro e w1 h1
  obtain ⟨A1, k1, rfl, hr1, hb1⟩ := cloned_row h1 (rowOf_len _ _) (fun b h => Nat.lt_of_lt_of_le (hP b h) (B0.out _ _).size)
  rw [two_size] at hr1
  have x1 := (hb1.block w.heap.size (by simp; omega)).trans X0.out.1
  have x2 := (hb1.block (w.heap.size + 1) (by simp)).trans X0.out.2
  have hs1 : w.heap.size + 2 ≤ w1.heap.size := by have := hb1.size; rwa [two_size] at this
  have B1 := Lib.hid ((B0.out _ _).trans (hb1.mono (B0.out _ _).size))
  have R1 := Lib.hid hr1
  have HX := Lib.hid (And.intro x1 x2)
  obtain ⟨⟨y0, y1, y2, y3, y4, y5⟩, v0, v1, v2, v3, v4, v5⟩ := six_cells x1
  clear h1 hr1 hb1 x1 x2 C X0
  go_upto_region 2 with fail
  clear y0 y1 y2 y3 y4 y5 v0 v1 v2 v3 v4 v5
  have hne0 : ∀ b, OwnP P (w.heap.size + 2) w1 b → b ≠ w.heap.size := fun b hb => hb.ne hP (by omega)
  have x1 : (w1.setCell ⟨w.heap.size, 1, none⟩ (.slice A1 ps.length k1)).heap[w.heap.size]? = some (.cells #[.string n, .slice A1 ps.length k1, .string tn, .int .i64 tl, .int .i64 tm, .slice Ad ds.length kd] 84 (0, 0)) := by simp [World.setCell, Array.getElem?_modify, HX.out.1]
  have x2 : (w1.setCell ⟨w.heap.size, 1, none⟩ (.slice A1 ps.length k1)).heap[w.heap.size + 1]? = _ := (Below.heap_setCell _ _ _ _ (Nat.succ_ne_self _)).trans HX.out.2
  have B2 := Lib.hid (B1.out.setCell (p := ⟨w.heap.size, 1, none⟩) (Nat.le_refl _) (.slice A1 ps.length k1))
  have R2 := Lib.hid (R1.out.own (w' := w1.setCell ⟨w.heap.size, 1, none⟩ (.slice A1 ps.length k1)) (by simp [World.setCell]) (Nat.le_refl _) (fun b hb => Below.heap_setCell _ _ _ _ (hne0 b hb)))
  have hs2 : w.heap.size + 2 ≤ (w1.setCell ⟨w.heap.size, 1, none⟩ (.slice A1 ps.length k1)).heap.size := by simpa [World.setCell] using hs1
  generalize w1.setCell ⟨w.heap.size, 1, none⟩ (.slice A1 ps.length k1) = wz at x1 x2 B2 R2 hs2 ⊢
  clear R1 B1 hs1 hne0 HX
  obtain ⟨⟨y0, y1, y2, y3, y4, y5⟩, v0, v1, v2, v3, v4, v5⟩ := six_cells x1
  have HX2 := Lib.hid (And.intro x1 x2)
  clear x1 x2
  go_wp2_with fail
  refine (D.out _ B2.out).mono ?_
  rintro e w3 ⟨A3, k3, rfl, hr3, hb3⟩
  have x1 := (hb3.block w.heap.size (by omega)).trans HX2.out.1
  have x2 := (hb3.block (w.heap.size + 1) (by omega)).trans HX2.out.2
  have B3 := Lib.hid (B2.out.trans (hb3.mono B2.out.size))
  have R3 := Lib.hid (R2.out.own (w' := w3) hb3.size (Nat.le_refl _) (fun b hb => hb3.block b hb.1))
  have Q3 := Lib.hid (hr3.own (w' := w3) (K' := w.heap.size + 2) (Nat.le_refl _) hs2 (fun b hb => rfl))
  have hs3 := Nat.le_trans hs2 hb3.size
  have HX := Lib.hid (And.intro x1 x2)
  clear y0 y1 y2 y3 y4 y5 v0 v1 v2 v3 v4 v5 hr3 hb3 R2 B2 HX2 D
  obtain ⟨⟨y0, y1, y2, y3, y4, y5⟩, v0, v1, v2, v3, v4, v5⟩ := six_cells x1
  clear x1 x2
  go_upto_region 3 with fail
  clear y0 y1 y2 y3 y4 y5 v0 v1 v2 v3 v4 v5
  have hne0 : ∀ b, OwnP P (w.heap.size + 2) w3 b → b ≠ w.heap.size := fun b hb => hb.ne hP (by omega)
  have x1 : (w3.setCell ⟨w.heap.size, 5, none⟩ (.slice A3 ds.length k3)).heap[w.heap.size]? = some (.cells #[.string n, .slice A1 ps.length k1, .string tn, .int .i64 tl, .int .i64 tm, .slice A3 ds.length k3] 84 (0, 0)) := by simp [World.setCell, Array.getElem?_modify, HX.out.1]
  have x2 : (w3.setCell ⟨w.heap.size, 5, none⟩ (.slice A3 ds.length k3)).heap[w.heap.size + 1]? = _ := (Below.heap_setCell _ _ _ _ (Nat.succ_ne_self _)).trans HX.out.2
  have B4 := Lib.hid (B3.out.setCell (p := ⟨w.heap.size, 5, none⟩) (Nat.le_refl _) (.slice A3 ds.length k3))
  have R4 := Lib.hid (R3.out.own (w' := w3.setCell ⟨w.heap.size, 5, none⟩ (.slice A3 ds.length k3)) (by simp [World.setCell]) (Nat.le_refl _) (fun b hb => Below.heap_setCell _ _ _ _ (hne0 b hb)))
  have Q4 := Lib.hid (Q3.out.own (w' := w3.setCell ⟨w.heap.size, 5, none⟩ (.slice A3 ds.length k3)) (by simp [World.setCell]) (Nat.le_refl _) (fun b hb => Below.heap_setCell _ _ _ _ (hne0 b hb)))
  generalize w3.setCell ⟨w.heap.size, 5, none⟩ (.slice A3 ds.length k3) = wy at x1 x2 B4 R4 Q4 ⊢
  clear R3 Q3 B3 hne0 HX hs3
  obtain ⟨⟨y0, y1, y2, y3, y4, y5⟩, _⟩ := six_cells x1
  obtain ⟨⟨z0, z1, z2, z3, z4, z5⟩, v0, v1, v2, v3, v4, v5⟩ := six_cells x2
  have HX := Lib.hid x2
  clear x1 x2
  go_wp2_with fail
  refine ret_fld rfl rfl rfl (six_set HX.out) ?_
  have hne : ∀ b, OwnP P (w.heap.size + 2) wy b → b ≠ w.heap.size + 1 := fun b hb => hb.ne (fun b h => Nat.lt_succ_of_lt (hP b h)) (by omega)
  have hkp : ∀ b, OwnP P (w.heap.size + 2) wy b → ((((((wy.setCell ⟨w.heap.size + 1, 0, none⟩ (.string n)).setCell ⟨w.heap.size + 1, 1, none⟩ (.slice A1 ps.length k1)).setCell ⟨w.heap.size + 1, 2, none⟩ (.string tn)).setCell ⟨w.heap.size + 1, 3, none⟩ (.int .i64 tl)).setCell ⟨w.heap.size + 1, 4, none⟩ (.int .i64 tm)).setCell ⟨w.heap.size + 1, 5, none⟩ (.slice A3 ds.length k3)).heap[b]? = wy.heap[b]? := fun b hb =>
    six_heap (hne b hb)
  exact ⟨A1, k1, A3, k3, rfl, fld_ts HNL.out.1 HNL.out.2.1 HNL.out.2.2 (R4.out.own (by simp [World.setCell]) (by omega) hkp) (Q4.out.own (by simp [World.setCell]) (by omega) hkp), six_low (b := w.heap.size + 1) B4.out (Nat.le_succ _)⟩
end Go.Proofs.YtcfdfgbobnocnaaGreatDoor
namespace Go.Proofs.YtcfdfgbobnocnaaGreatDoor
open Go.RowKit

theorem eachF_at {w : World} {P : Nat → Prop} {K g : Nat} {l : List FieldT} {q : Nat} {x : FieldT} (h : RowAt encField 6 84 P K g l w) (hx : l[q]? = some x) :
    ∃ c0 c1 c2 c3 c4 c5, TS w (fun b => OwnP P K w b ∧ b ≠ g) (encField x) [c0, c1, c2, c3, c4, c5] ∧ (w.cell? ⟨g, q * 6, none⟩ = some c0 ∧ w.cell? ⟨g, q * 6 + 1, none⟩ = some c1 ∧ w.cell? ⟨g, q * 6 + 2, none⟩ = some c2 ∧ w.cell? ⟨g, q * 6 + 3, none⟩ = some c3 ∧ w.cell? ⟨g, q * 6 + 4, none⟩ = some c4 ∧ w.cell? ⟨g, q * 6 + 5, none⟩ = some c5) ∧ w.frozen? ⟨g, q * 6, none⟩ = false ∧ w.frozen? ⟨g, q * 6 + 1, none⟩ = false ∧ w.frozen? ⟨g, q * 6 + 2, none⟩ = false ∧ w.frozen? ⟨g, q * 6 + 3, none⟩ = false ∧ w.frozen? ⟨g, q * 6 + 4, none⟩ = false ∧ w.frozen? ⟨g, q * 6 + 5, none⟩ = false := by
  obtain ⟨⟨cur, h1, h2⟩, h3⟩ := h
  obtain ⟨cs, h4, h5⟩ := h3 q x hx
  have hl : cs.length = 6 := by rw [h4.len, len_fld]
  have hq : q < l.length := (List.getElem?_eq_some_iff.1 hx).1
  match cs, hl with
  | [c0, c1, c2, c3, c4, c5], _ => exact ⟨c0, c1, c2, c3, c4, c5, h4, ⟨h5 0 _ rfl, h5 1 _ rfl, h5 2 _ rfl, h5 3 _ rfl, h5 4 _ rfl, h5 5 _ rfl⟩, cells_frozen h1 _, cells_frozen h1 _, cells_frozen h1 _, cells_frozen h1 _, cells_frozen h1 _, cells_frozen h1 _⟩
theorem six_low' {w0 w : World} {B b o : Nat} {c0 c1 c2 c3 c4 c5 : Value} (h : Below B w0 w) (hb : B ≤ b) : Below B w0 ((((((w.setCell ⟨b, o, none⟩ c0).setCell ⟨b, o + 1, none⟩ c1).setCell ⟨b, o + 2, none⟩ c2).setCell ⟨b, o + 3, none⟩ c3).setCell ⟨b, o + 4, none⟩ c4).setCell ⟨b, o + 5, none⟩ c5) :=
  (((((h.setCell hb _).setCell hb _).setCell hb _).setCell hb _).setCell hb _).setCell hb _
/-- Each one of one's own. -/
def EachF (l : List FieldT) (P : Nat → Prop) (w : World) (e : Ending) (w' : World) : Prop := ∃ A c, e = .returned (.slice A l.length c) ∧ RowT w' (OwnP P w.heap.size w') (rowOf encField l) A ∧ Below w.heap.size w w'
set_option maxRecDepth 100000 in
set_option maxHeartbeats 8000000 in
theorem eachF_any (l : List FieldT) (A : Option Addr) (c : Nat) (w : World) (P : Nat → Prop) (hP : ∀ b, P b → b < w.heap.size) (hz : l.length * 96 ≤ 140737488355328) (hs : ∀ x, x ∈ l → SlimF x) (hR : RowT w P (rowOf encField l) A) :
    Calls Tryz.prog 90 #[.slice A l.length c, .func (.func 91) #[] #[]] w (EachF l P w) := by
  have C := Lib.hid (clone_fld l A c w P hP hz hR)
  have hn : l.length ≤ 9223372036854775807 := by omega
  clear hz hR
  by_cases hp : 0 < l.length
  · go_enter Tryz.func90, Tryz.ntmps90
    go_wp2_with fail
    refine C.out.mono ?_
    rintro e w1 ⟨V, xs, rfl, h1, h2, h3⟩
    obtain ⟨g, c', rfl, hKg, hA⟩ := RowAt.start len_fld h1 h2 hP h3.size rfl hp
    have B1 := Lib.hid h3
    have HA := Lib.hid hA
    clear h1 h2 h3 hA C
    go_wp2_with fail
    go_loopg [12] l.length (fun gk i wx => ∃ q : Nat, q + gk = l.length ∧ i = .int .i64 q ∧ Aside (RowAt encField 6 84 P w.heap.size g l wx ∧ Below w.heap.size w wx))
    case atStart => exact ⟨0, by omega, rfl, Blk.Aside.intro ⟨HA.out, B1.out⟩⟩
    case round =>
      obtain ⟨q, hq, rfl, HX⟩ := hrel
      obtain ⟨hA, hb⟩ := HX.out
      have HAX := Lib.hid hA
      have HBB := Lib.hid hb
      clear HX hA hb HA
      cases gk with
      | zero =>
        obtain rfl : q = l.length := by omega
        go_wp2_with fail
        go_ret
        exact ⟨some ⟨g, 0, none⟩, c', rfl, HAX.out.row len_fld hKg, HBB.out⟩
      | succ gg =>
        have hqn : q < l.length := by omega
        have hqn' : (q : Int) < (l.length : Int) := by omega
        obtain ⟨x, hx⟩ : ∃ x, l[q]? = some x := ⟨_, List.getElem?_eq_getElem hqn⟩
        obtain ⟨c0, c1, c2, c3, c4, c5, hT, ⟨g0, g1, g2, g3, g4, g5⟩, f0, f1, f2, f3, f4, f5⟩ := eachF_at HAX.out hx
        have hsl := Lib.hid (hs x (List.mem_of_getElem? hx))
        have HT := Lib.hid hT
        have HXX := Lib.hid hx
        have hgl := HAX.out.lt
        have hso := HBB.out.size
        obtain ⟨Ap, kp, Ad, kd, e, _⟩ := fld_cells hT
        simp only [List.cons.injEq, and_true] at e
        obtain ⟨rfl, rfl, rfl, rfl, rfl, rfl⟩ := e
        have hC := Lib.hid (fun o => ownfld_any x (.string x.name) (.slice Ap x.params.length kp) (.string x.tn) (.int .i64 x.tl) (.int .i64 x.tm) (.slice Ad x.dirs.length kd) (wr.alloc o) (fun b => OwnP P w.heap.size wr b ∧ b ≠ g) (fun b h => Nat.lt_of_lt_of_le h.1.1 (dbelow_new wr o).size) hsl.out (TS.keep (fun b h => ⟨h, (dbelow_new wr o).block b h.1.1⟩) _ _ HT.out))
        clear hT hx f0 f1 f2 f3 f4 f5
        go_wp2_with fail
        refine (hC.out _).mono ?_
        rintro e w2 ⟨Ap3, kp3, Ad3, kd3, rfl, hT3, hb3⟩
        have hb2 := (dbelow_new wr (.cells #[.string x.name, .slice Ap x.params.length kp, .string x.tn, .int .i64 x.tl, .int .i64 x.tm, .slice Ad x.dirs.length kd] 84)).trans (hb3.mono (by simp))
        have A2' := Lib.hid (HAX.out.low hb2)
        have B2 := Lib.hid (HBB.out.trans (hb2.mono hso))
        have T2 := Lib.hid (TS.keep (P' := fun b => OwnP P w.heap.size w2 b ∧ b ≠ g) (fun b h => ⟨by
          rcases h.2 with h1 | h1
          · exact ⟨⟨h.1, h1.1.2⟩, h1.2⟩
          · have h4 : wr.heap.size + 1 ≤ b := by simpa using h1
            exact ⟨⟨h.1, .inr (by omega)⟩, by omega⟩, rfl⟩) _ _ hT3)
        obtain ⟨e0, e1, e2, e3, e4, e5, _, ⟨z0, z1, z2, z3, z4, z5⟩, y0, y1, y2, y3, y4, y5⟩ := eachF_at A2'.out HXX.out
        have hset := A2'.out.set len_fld HXX.out T2.out
        clear hT3 hb3 hb2 hC g0 g1 g2 g3 g4 g5
        obtain ⟨O, hO⟩ : ∃ O, q * 6 = O := ⟨_, rfl⟩
        rw [hO] at z0 z1 z2 z3 z4 z5 y0 y1 y2 y3 y4 y5 hset
        have HSet := Lib.hid hset
        clear hset
        go_wp2_with fail
        go_roundg gg
        case measure => omega
        case rel => exact ⟨q + 1, by omega, by go_num, Blk.Aside.intro ⟨HSet.out, six_low' B2.out hKg⟩⟩
  · have h0 : l.length = 0 := by omega
    have HL := Lib.hid h0
    obtain rfl : l = [] := List.eq_nil_of_length_eq_zero h0
    clear h0 hp hs hn
    go_enter Tryz.func90, Tryz.ntmps90
    go_wp2_with fail
    refine C.out.mono ?_
    rintro e w1 h1
    obtain ⟨A1, c1, rfl, _, hb1⟩ := cloned_row h1 rfl hP
    have B1 := Lib.hid hb1
    clear h1 hb1 C
    go_wp2_with fail
    go_loopg [12] 0 (fun gk i wx => gk = 0 ∧ i = .int .i64 0 ∧ Below w.heap.size w wx)
    case atStart => exact ⟨rfl, rfl, B1.out⟩
    case round =>
      obtain ⟨rfl, rfl, hb⟩ := hrel
      have HBB := Lib.hid hb
      clear hb
      go_wp2_with fail
      go_ret
      exact ⟨A1, c1, rfl, by rw [rowOf]; unfold RowT; trivial, HBB.out⟩
end Go.Proofs.YtcfdfgbobnocnaaGreatDoor
