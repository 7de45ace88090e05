/- seinelaw8.Light over a schema: some answer, and nothing turns. -/
import Derived.Test.YtmamgaifpjgfkaaGreatDoorDfField
namespace Go.Proofs.YtmamgaifpjgfkaaGreatDoor
open Go.RowKit

/-- A row of texts that may be counted. -/
def TxtOK (w : World) (B : Nat) (A : Option Addr) (n : Nat) : Prop := n ≤ 9223372036854775807 ∧ ∃ xs, Blk.StrsAt w B A n xs
theorem lt_call {wz wx : World} {B : Nat} {A : Option Addr} {n c : Nat} (h : TxtOK wz B A n) (hB : B ≤ wz.heap.size) (hb : Below wz.heap.size wz wx) : Calls Tryz.prog 43 #[.slice A n c] wx (SomeI wx) := by
  obtain ⟨hn, xs, hx⟩ := h
  exact ltexts_any A n c xs wx hn ((hx.below (hb.mono hB)).more (Nat.le_trans hB hb.size))
/-- The box of a definition. -/
def QD (wz : World) (g : Nat) (c1 c2 c4 c5 : Value) (W : World) : Prop := W.cell? ⟨g, 1, none⟩ = some c1 ∧ W.cell? ⟨g, 2, none⟩ = some c2 ∧ W.cell? ⟨g, 4, none⟩ = some c4 ∧ W.cell? ⟨g, 5, none⟩ = some c5 ∧ Below wz.heap.size wz W
theorem QD.next {wz W W' : World} {g : Nat} {c1 c2 c4 c5 : Value} (h : QD wz g c1 c2 c4 c5 W) (hl : g < wz.heap.size) (hb : Below W.heap.size W W') : QD wz g c1 c2 c4 c5 W' := by
  obtain ⟨h1, h2, h4, h5, hK⟩ := h
  have q := Nat.lt_of_lt_of_le hl hK.size
  exact ⟨(hb.cell (p := ⟨g, _, none⟩) q).trans h1, (hb.cell (p := ⟨g, _, none⟩) q).trans h2, (hb.cell (p := ⟨g, _, none⟩) q).trans h4, (hb.cell (p := ⟨g, _, none⟩) q).trans h5, hK.trans (hb.mono hK.size)⟩
theorem QD.written {wz W : World} {g : Nat} {c1 c2 c4 c5 : Value} (h : QD wz g c1 c2 c4 c5 W) : W.cell? ⟨g, 1, none⟩ = some c1 ∧ W.cell? ⟨g, 2, none⟩ = some c2 ∧ W.cell? ⟨g, 4, none⟩ = some c4 ∧ W.cell? ⟨g, 5, none⟩ = some c5 ∧ QD wz g c1 c2 c4 c5 W := ⟨h.1, h.2.1, h.2.2.1, h.2.2.2.1, h⟩
theorem QD.below {wz W : World} {g : Nat} {c1 c2 c4 c5 : Value} (h : QD wz g c1 c2 c4 c5 W) : Below wz.heap.size wz W := h.2.2.2.2
theorem QD.held {wz W : World} {g : Nat} {c1 c2 c4 c5 : Value} {p1 p2 p3 p4 : Prop} (h : p1 ∧ p2 ∧ p3 ∧ p4 ∧ QD wz g c1 c2 c4 c5 W) : Below wz.heap.size wz W := h.2.2.2.2.below
theorem QD.last {wz W : World} {g : Nat} {c1 c2 c4 c5 : Value} {p1 p2 p3 p4 : Prop} (h : p1 ∧ p2 ∧ p3 ∧ p4 ∧ QD wz g c1 c2 c4 c5 W) : QD wz g c1 c2 c4 c5 W := h.2.2.2.2
/-- The box's row of fields, and the field at hand. -/
def QE (wz : World) (g : Nat) (c3 : Value) (b O : Nat) (nm v1 v5 : Value) (W : World) : Prop := W.cell? ⟨g, 3, none⟩ = some c3 ∧ W.cell? ⟨b, O, none⟩ = some nm ∧ W.cell? ⟨b, O + 1, none⟩ = some v1 ∧ W.cell? ⟨b, O + 5, none⟩ = some v5 ∧ Below wz.heap.size wz W
theorem QE.next {wz W W' : World} {g b O : Nat} {c3 nm v1 v5 : Value} (h : QE wz g c3 b O nm v1 v5 W) (hl : g < wz.heap.size) (hl2 : b < wz.heap.size) (hb : Below W.heap.size W W') : QE wz g c3 b O nm v1 v5 W' := by
  obtain ⟨h1, h2, h4, h5, hK⟩ := h
  have q := Nat.lt_of_lt_of_le hl hK.size
  have q2 := Nat.lt_of_lt_of_le hl2 hK.size
  exact ⟨(hb.cell (p := ⟨g, _, none⟩) q).trans h1, (hb.cell (p := ⟨b, _, none⟩) q2).trans h2, (hb.cell (p := ⟨b, _, none⟩) q2).trans h4, (hb.cell (p := ⟨b, _, none⟩) q2).trans h5, hK.trans (hb.mono hK.size)⟩
theorem QE.written {wz W : World} {g b O : Nat} {c3 nm v1 v5 : Value} (h : QE wz g c3 b O nm v1 v5 W) : W.cell? ⟨g, 3, none⟩ = some c3 ∧ W.cell? ⟨b, O, none⟩ = some nm ∧ W.cell? ⟨b, O + 1, none⟩ = some v1 ∧ W.cell? ⟨b, O + 5, none⟩ = some v5 ∧ QE wz g c3 b O nm v1 v5 W := ⟨h.1, h.2.1, h.2.2.1, h.2.2.2.1, h⟩
theorem QE.below {wz W : World} {g b O : Nat} {c3 nm v1 v5 : Value} (h : QE wz g c3 b O nm v1 v5 W) : Below wz.heap.size wz W := h.2.2.2.2
theorem QE.last {wz W : World} {g b O : Nat} {c3 nm v1 v5 : Value} {p1 p2 p3 p4 : Prop} (h : p1 ∧ p2 ∧ p3 ∧ p4 ∧ QE wz g c3 b O nm v1 v5 W) : QE wz g c3 b O nm v1 v5 W := h.2.2.2.2
theorem QE.held {wz W : World} {g b O : Nat} {c3 nm v1 v5 : Value} {p1 p2 p3 p4 : Prop} (h : p1 ∧ p2 ∧ p3 ∧ p4 ∧ QE wz g c3 b O nm v1 v5 W) : Below wz.heap.size wz W := h.2.2.2.2.below
set_option maxRecDepth 100000 in
set_option maxHeartbeats 8000000 in
theorem light_any (S : SchT) (c0 c1 c2 : Value) (w : World) (B : Nat) (hB : B ≤ w.heap.size) (hS : TS w (fun b => b < B) (encSch S) [c0, c1, c2]) :
    Calls Tryz.prog 24 #[.agg #[c0, c1, c2]] w (SomeB w) := by
  obtain ⟨A, k, e, hl, hR⟩ := sch_cells hS
  injection e with e0 e
  injection e with e1 e
  injection e with e2 e
  subst e0 e1 e2
  obtain ⟨l, el⟩ : ∃ l, S.defs = l := ⟨_, rfl⟩
  have B0 := Lib.hid (dbelow_new w (.cells #[.slice A S.defs.length k, .string S.query, .string S.mutation] 24))
  have X0 := Lib.hid (heap_alloc_new w (.cells #[.slice A S.defs.length k, .string S.query, .string S.mutation] 24))
  rw [el] at hl hR B0 X0 ⊢
  have HB0 := Lib.hid hB
  have HR := Lib.hid hR
  clear hB hS hR e el
  go_enter Tryz.func24, Tryz.ntmps24
  go_wp2_with fail
  go_loopg [3, 4] l.length (fun g t i wx => ∃ q : Nat, q + g = l.length ∧ i = .int .i64 q ∧ (∃ k : Int, t = .int .i64 k) ∧ Aside (wx.heap[w.heap.size]? = some (.cells #[.slice A l.length k, .string S.query, .string S.mutation] 24 (0, 0))) ∧ Below w.heap.size w wx)
  case atStart => exact ⟨0, by omega, rfl, ⟨0, rfl⟩, Blk.Aside.intro X0.out, B0.out⟩
  case round =>
    obtain ⟨q, hq, rfl, ⟨kn, rfl⟩, HX, hb⟩ := hrel
    have HBB := Lib.hid hb
    obtain ⟨x0, x1, x2⟩ := three_cells HX.out
    have hltb : w.heap.size < wr.heap.size := (Array.getElem?_eq_some_iff.1 HX.out).1
    clear hb
    cases gk with
    | zero =>
      obtain rfl : q = l.length := by omega
      go_wp2_with fail
      go_ret
      exact ⟨_, rfl, HBB.out⟩
    | succ gg =>
      have hqn : q < l.length := by omega
      have hqn' : (q : Int) < (l.length : Int) := by omega
      obtain ⟨d, hd⟩ : ∃ x, l[q]? = some x := ⟨_, List.getElem?_eq_getElem hqn⟩
      obtain ⟨b, p, d0, d1, d2, d3, d4, d5, rfl, hlt, ⟨g0, g1, g2, g3, g4, g5⟩, hT⟩ := defn_at (RowT.below (HBB.out.mono HB0.out) HR.out) hd
      obtain ⟨Af, kf, Ax, kx, Ap, kp, Am, km, e, _, ⟨lf, hf⟩, ⟨lx, hx⟩, ⟨lp, hp⟩, lm, hm⟩ := defn_cells hT
      simp only [List.cons.injEq, and_true] at e
      obtain ⟨rfl, rfl, rfl, rfl, rfl, rfl⟩ := e
      have hlt' : b < wr.heap.size := Nat.lt_of_lt_of_le hlt (Nat.le_trans HB0.out HBB.out.size)
      have hBr := Nat.le_trans HB0.out HBB.out.size
      clear hT hd hlt
      go_upto_region 6 with fail
      clear g0 g1 g2 g3 g4 g5 x0 x1 x2
      have hc := heap_alloc_new wr (.cells #[.int .i64 d.kind, .string d.name, .slice Af d.faces.length kf, .slice Ax d.fields.length kx, .slice Ap d.parts.length kp, .slice Am d.params.length km] 70)
      have hbz := dbelow_new wr (.cells #[.int .i64 d.kind, .string d.name, .slice Af d.faces.length kf, .slice Ax d.fields.length kx, .slice Ap d.parts.length kp, .slice Am d.params.length km] 70)
      have hgz : wr.heap.size < (wr.alloc (.cells #[.int .i64 d.kind, .string d.name, .slice Af d.faces.length kf, .slice Ax d.fields.length kx, .slice Ap d.parts.length kp, .slice Am d.params.length km] 70)).heap.size := by simp
      generalize wr.alloc (.cells #[.int .i64 d.kind, .string d.name, .slice Af d.faces.length kf, .slice Ax d.fields.length kx, .slice Ap d.parts.length kp, .slice Am d.params.length km] 70) = wz at hc hbz hgz ⊢
      have HXZ := Lib.hid ((hbz.block _ hltb).trans HX.out)
      have HBZ := Lib.hid (HBB.out.trans (hbz.mono HBB.out.size))
      have HLZ := Lib.hid (Nat.lt_of_lt_of_le hltb hbz.size)
      have hBz := Nat.le_trans hBr hbz.size
      have t1 : TxtOK wz B Af d.faces.length := ⟨lf, _, (str_row hf).below (hbz.mono hBr)⟩
      have t2 : TxtOK wz B Ap d.parts.length := ⟨lp, _, (str_row hp).below (hbz.mono hBr)⟩
      have LP := fun (wx : World) (h : Below wz.heap.size wz wx) => Lib.hid (lparams_any d.params Am km wx B (Nat.le_trans hBz h.size) lm (RowT.below (h.mono hBz) (RowT.below (hbz.mono hBr) hm)))
      have HFX := Lib.hid (RowT.below (hbz.mono hBr) hx)
      generalize wr.heap.size = gq at hc hgz ⊢
      have HC := Lib.hid hc
      obtain ⟨⟨y0, y1, y2, y3, y4, y5⟩, _⟩ := six_cells hc
      have hE : QD wz gq (.string d.name) (.slice Af d.faces.length kf) (.slice Ap d.parts.length kp) (.slice Am d.params.length km) wz := ⟨y1, y2, y4, y5, Below.refl _ _⟩
      have HGZ := Lib.hid hgz
      have HBz := Lib.hid hBz
      clear hc hbz hm hf hp hx lf lp lm y0 y3 hgz hBz
      go_region_held3 (fun w' => w'.cell? ⟨gq, 1, none⟩ = some (.string d.name) ∧ w'.cell? ⟨gq, 2, none⟩ = some (.slice Af d.faces.length kf) ∧ w'.cell? ⟨gq, 4, none⟩ = some (.slice Ap d.parts.length kp) ∧ w'.cell? ⟨gq, 5, none⟩ = some (.slice Am d.params.length km) ∧ QD wz gq (.string d.name) (.slice Af d.faces.length kf) (.slice Ap d.parts.length kp) (.slice Am d.params.length km) w')
        (first
          | exact QD.written (hE.next HGZ.out (Below.drew (Below.refl _ _)))
          | exact QD.written ((hE.next HGZ.out (Below.drew (Below.refl _ _))).next HGZ.out (by assumption))
          | exact QD.written (hE.next HGZ.out (by assumption))
          | exact QD.written (QD.next (QD.last (by assumption)) HGZ.out (by assumption))
          | go_keep)
        ((first
          | (go_at_call 43; refine (lt_call (by assumption) HBz.out (by first | exact Below.drew (Below.refl _ _) | exact QD.held (by assumption))).mono ?_; rintro e w' ⟨kk, rfl, hb⟩)
          | (go_at_call 44; refine (LP _ (by first | exact Below.drew (Below.refl _ _) | exact QD.held (by assumption))).out.mono ?_; rintro e w' ⟨kk, rfl, hb⟩)))
      all_goals
        have HK := QD.last (by assumption)
        have HW := Lib.hid HK.below
        clear HK hE t1 t2 LP y1 y2 y4 y5
        have y3 := (HW.out.cell (p := ⟨gq, 3, none⟩) HGZ.out).trans (six_cells HC.out).1.2.2.2.1
        go_wp2_with fail
        clear y3
        go_loopg [3, 6] d.fields.length (fun g2 t i wx => ∃ j : Nat, j + g2 = d.fields.length ∧ i = .int .i64 j ∧ (∃ k : Int, t = .int .i64 k) ∧ Below wz.heap.size wz wx)
        case atStart => exact ⟨0, by omega, rfl, ⟨_, rfl⟩, HW.out⟩
        case round =>
          obtain ⟨j, hj, rfl, ⟨kk, rfl⟩, hb⟩ := hrel
          have HBC := Lib.hid hb
          have y3 := (hb.cell (p := ⟨gq, 3, none⟩) HGZ.out).trans (six_cells HC.out).1.2.2.2.1
          clear hb
          cases gk with
          | zero =>
            obtain rfl : j = d.fields.length := by omega
            go_wp2_with fail
            go_roundg gg
            case measure => omega
            case rel => exact ⟨q + 1, by omega, by go_num, ⟨_, rfl⟩, Blk.Aside.intro ((HBC.out.block _ HLZ.out).trans HXZ.out), HBZ.out.trans (HBC.out.mono HBZ.out.size)⟩
          | succ g2 =>
            have hjn : j < d.fields.length := by omega
            have hjn' : (j : Int) < (d.fields.length : Int) := by omega
            obtain ⟨x, hx⟩ : ∃ x, d.fields[j]? = some x := ⟨_, List.getElem?_eq_getElem hjn⟩
            obtain ⟨b2, p2, e0, e1, e2, e3, e4, e5, rfl, hlt2, ⟨f0, f1, f2, f3, f4, f5⟩, hT2⟩ := field_at (RowT.below (HBC.out.mono HBz.out) HFX.out) hx
            obtain ⟨Bp, cp, Bd, cd, e, _, ⟨l1, h1⟩, l5, h5⟩ := fld_cells hT2
            simp only [List.cons.injEq, and_true] at e
            obtain ⟨rfl, rfl, rfl, rfl, rfl, rfl⟩ := e
            have hBk := Nat.le_trans HBz.out HBC.out.size
            have HB2 : Hid (b2 < wr.heap.size) := Lib.hid (Nat.lt_of_lt_of_le hlt2 hBk)
            have HG2 : Hid (gq < wr.heap.size) := Lib.hid (Nat.lt_of_lt_of_le HGZ.out HBC.out.size)
            have LP := fun (wx : World) (h : Below wr.heap.size wr wx) => Lib.hid (lparams_any x.params Bp cp wx B (Nat.le_trans hBk h.size) l1 (RowT.below (h.mono hBk) h1))
            have LD := fun (wx : World) (h : Below wr.heap.size wr wx) => Lib.hid (ldirs_any x.dirs Bd cd wx B (Nat.le_trans hBk h.size) l5 (RowT.below (h.mono hBk) h5))
            have hE : QE wr gq (.slice (some ⟨b2, p2, none⟩) d.fields.length kx) b2 (p2 + j * 6) (.string x.name) (.slice Bp x.params.length cp) (.slice Bd x.dirs.length cd) wr := ⟨y3, f0, f1, f5, Below.refl _ _⟩
            clear hT2 h1 h5 l1 l5 f2 f3 f4 hx hlt2
            go_wp2_with fail
            go_region_held3 (fun w' => w'.cell? ⟨gq, 3, none⟩ = some (.slice (some ⟨b2, p2, none⟩) d.fields.length kx) ∧ w'.cell? ⟨b2, p2 + j * 6, none⟩ = some (.string x.name) ∧ w'.cell? ⟨b2, p2 + j * 6 + 1, none⟩ = some (.slice Bp x.params.length cp) ∧ w'.cell? ⟨b2, p2 + j * 6 + 5, none⟩ = some (.slice Bd x.dirs.length cd) ∧ QE wr gq (.slice (some ⟨b2, p2, none⟩) d.fields.length kx) b2 (p2 + j * 6) (.string x.name) (.slice Bp x.params.length cp) (.slice Bd x.dirs.length cd) w')
              (first
                | exact QE.written (hE.next HG2.out HB2.out (Below.drew (Below.refl _ _)))
                | exact QE.written ((hE.next HG2.out HB2.out (Below.drew (Below.refl _ _))).next HG2.out HB2.out (by assumption))
                | exact QE.written (hE.next HG2.out HB2.out (by assumption))
                | exact QE.written (QE.next (QE.last (by assumption)) HG2.out HB2.out (by assumption))
                | go_keep)
              ((first
                | (go_at_call 45; refine (LD _ (by first | exact Below.drew (Below.refl _ _) | exact QE.held (by assumption))).out.mono ?_; rintro e w' ⟨kk, rfl, hb⟩)
                | (go_at_call 44; refine (LP _ (by first | exact Below.drew (Below.refl _ _) | exact QE.held (by assumption))).out.mono ?_; rintro e w' ⟨kk, rfl, hb⟩)))
            all_goals
              have HK := QE.last (by assumption)
              have HW := Lib.hid (HBC.out.trans (HK.below.mono HBC.out.size))
              clear HK hE LP LD y3 f0 f1 f5
              go_wp2_with fail
              go_roundg g2
              case measure => omega
              case rel => exact ⟨j + 1, by omega, by go_num, ⟨_, rfl⟩, HW.out⟩
end Go.Proofs.YtmamgaifpjgfkaaGreatDoor
