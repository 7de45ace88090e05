/- Arguments of Literal's laws, opened: values as trees, types, lists of values. -/
import Derived.Test.YtcfdfgbobnocnaaGreatDoorDfField
import Derived.Test.YtcfdfgbobnocnaaGreatDoorLtBound
import Derived.Test.YtcfdfgbobnocnaaGreatDoorLtSpots
import Derived.Test.YtcfdfgbobnocnaaGreatDoorVSize
import Derived.Test.YtcfdfgbobnocnaaGreatDoorTr
import Derived.Test.YtcfdfgbobnocnaaGreatDoorDfOpen
namespace Go.Proofs.YtcfdfgbobnocnaaGreatDoor
open Go.RowKit

/-- A row of texts that may be counted. -/
def TxtOK (w : World) (B : Nat) (A : Option Addr) (n : Nat) : Prop := n ≤ 9223372036854775807 ∧ ∃ xs, Blk.StrsAt w B A n xs
theorem lt_call {wz wx : World} {B : Nat} {A : Option Addr} {n c : Nat} (h : TxtOK wz B A n) (hB : B ≤ wz.heap.size) (hb : Below wz.heap.size wz wx) : Calls Tryz.prog 37 #[.slice A n c] wx (SomeI wx) := by
  obtain ⟨hn, xs, hx⟩ := h
  exact ltexts_any A n c xs wx hn ((hx.below (hb.mono hB)).more (Nat.le_trans hB hb.size))
/-- The box of a definition. -/
def QD (wz : World) (g : Nat) (c1 c2 c4 c5 : Value) (W : World) : Prop := W.cell? ⟨g, 1, none⟩ = some c1 ∧ W.cell? ⟨g, 2, none⟩ = some c2 ∧ W.cell? ⟨g, 4, none⟩ = some c4 ∧ W.cell? ⟨g, 5, none⟩ = some c5 ∧ Below wz.heap.size wz W
theorem QD.next {wz W W' : World} {g : Nat} {c1 c2 c4 c5 : Value} (h : QD wz g c1 c2 c4 c5 W) (hl : g < wz.heap.size) (hb : Below W.heap.size W W') : QD wz g c1 c2 c4 c5 W' := by
  obtain ⟨h1, h2, h4, h5, hK⟩ := h
  have q := Nat.lt_of_lt_of_le hl hK.size
  exact ⟨(hb.cell (p := ⟨g, _, none⟩) q).trans h1, (hb.cell (p := ⟨g, _, none⟩) q).trans h2, (hb.cell (p := ⟨g, _, none⟩) q).trans h4, (hb.cell (p := ⟨g, _, none⟩) q).trans h5, hK.trans (hb.mono hK.size)⟩
theorem QD.written {wz W : World} {g : Nat} {c1 c2 c4 c5 : Value} (h : QD wz g c1 c2 c4 c5 W) : W.cell? ⟨g, 1, none⟩ = some c1 ∧ W.cell? ⟨g, 2, none⟩ = some c2 ∧ W.cell? ⟨g, 4, none⟩ = some c4 ∧ W.cell? ⟨g, 5, none⟩ = some c5 ∧ QD wz g c1 c2 c4 c5 W := ⟨h.1, h.2.1, h.2.2.1, h.2.2.2.1, h⟩
theorem QD.below {wz W : World} {g : Nat} {c1 c2 c4 c5 : Value} (h : QD wz g c1 c2 c4 c5 W) : Below wz.heap.size wz W := h.2.2.2.2
theorem QD.held {wz W : World} {g : Nat} {c1 c2 c4 c5 : Value} {p1 p2 p3 p4 : Prop} (h : p1 ∧ p2 ∧ p3 ∧ p4 ∧ QD wz g c1 c2 c4 c5 W) : Below wz.heap.size wz W := h.2.2.2.2.below
theorem QD.last {wz W : World} {g : Nat} {c1 c2 c4 c5 : Value} {p1 p2 p3 p4 : Prop} (h : p1 ∧ p2 ∧ p3 ∧ p4 ∧ QD wz g c1 c2 c4 c5 W) : QD wz g c1 c2 c4 c5 W := h.2.2.2.2
/-- The box's row of fields, and the field at hand. -/
def QE (wz : World) (g : Nat) (c3 : Value) (b O : Nat) (nm v1 v5 : Value) (W : World) : Prop := W.cell? ⟨g, 3, none⟩ = some c3 ∧ W.cell? ⟨b, O, none⟩ = some nm ∧ W.cell? ⟨b, O + 1, none⟩ = some v1 ∧ W.cell? ⟨b, O + 5, none⟩ = some v5 ∧ Below wz.heap.size wz W
theorem QE.next {wz W W' : World} {g b O : Nat} {c3 nm v1 v5 : Value} (h : QE wz g c3 b O nm v1 v5 W) (hl : g < wz.heap.size) (hl2 : b < wz.heap.size) (hb : Below W.heap.size W W') : QE wz g c3 b O nm v1 v5 W' := by
  obtain ⟨h1, h2, h4, h5, hK⟩ := h
  have q := Nat.lt_of_lt_of_le hl hK.size
  have q2 := Nat.lt_of_lt_of_le hl2 hK.size
  exact ⟨(hb.cell (p := ⟨g, _, none⟩) q).trans h1, (hb.cell (p := ⟨b, _, none⟩) q2).trans h2, (hb.cell (p := ⟨b, _, none⟩) q2).trans h4, (hb.cell (p := ⟨b, _, none⟩) q2).trans h5, hK.trans (hb.mono hK.size)⟩
theorem QE.written {wz W : World} {g b O : Nat} {c3 nm v1 v5 : Value} (h : QE wz g c3 b O nm v1 v5 W) : W.cell? ⟨g, 3, none⟩ = some c3 ∧ W.cell? ⟨b, O, none⟩ = some nm ∧ W.cell? ⟨b, O + 1, none⟩ = some v1 ∧ W.cell? ⟨b, O + 5, none⟩ = some v5 ∧ QE wz g c3 b O nm v1 v5 W := ⟨h.1, h.2.1, h.2.2.1, h.2.2.2.1, h⟩
theorem QE.below {wz W : World} {g b O : Nat} {c3 nm v1 v5 : Value} (h : QE wz g c3 b O nm v1 v5 W) : Below wz.heap.size wz W := h.2.2.2.2
theorem QE.last {wz W : World} {g b O : Nat} {c3 nm v1 v5 : Value} {p1 p2 p3 p4 : Prop} (h : p1 ∧ p2 ∧ p3 ∧ p4 ∧ QE wz g c3 b O nm v1 v5 W) : QE wz g c3 b O nm v1 v5 W := h.2.2.2.2
theorem QE.held {wz W : World} {g b O : Nat} {c3 nm v1 v5 : Value} {p1 p2 p3 p4 : Prop} (h : p1 ∧ p2 ∧ p3 ∧ p4 ∧ QE wz g c3 b O nm v1 v5 W) : Below wz.heap.size wz W := h.2.2.2.2.below
set_option maxRecDepth 100000 in
set_option maxHeartbeats 8000000 in
theorem light_any (S : SchT) (c0 c1 c2 : Value) (w : World) (B : Nat) (hB : B ≤ w.heap.size) (hS : TS w (fun b => b < B) (encSch S) [c0, c1, c2]) :
    Calls Tryz.prog 22 #[.agg #[c0, c1, c2]] w (SomeB w) := by
  obtain ⟨A, k, e, hl, hR⟩ := sch_cells hS
  injection e with e0 e
  injection e with e1 e
  injection e with e2 e
  subst e0 e1 e2
  obtain ⟨l, el⟩ : ∃ l, S.defs = l := ⟨_, rfl⟩
  have B0 := Lib.hid (dbelow_new w (.cells #[.slice A S.defs.length k, .string S.query, .string S.mutation] 24))
  have X0 := Lib.hid (heap_alloc_new w (.cells #[.slice A S.defs.length k, .string S.query, .string S.mutation] 24))
  rw [el] at hl hR B0 X0 ⊢
  have HB0 := Lib.hid hB
  have HR := Lib.hid hR
  clear hB hS hR e el
  go_enter Tryz.func22, Tryz.ntmps22
  go_wp2_with fail
  go_loopg [3, 4] l.length (fun g t i wx => ∃ q : Nat, q + g = l.length ∧ i = .int .i64 q ∧ (∃ k : Int, t = .int .i64 k) ∧ Aside (wx.heap[w.heap.size]? = some (.cells #[.slice A l.length k, .string S.query, .string S.mutation] 24 (0, 0))) ∧ Below w.heap.size w wx)
  case atStart => exact ⟨0, by omega, rfl, ⟨0, rfl⟩, Blk.Aside.intro X0.out, B0.out⟩
  case round =>
    obtain ⟨q, hq, rfl, ⟨kn, rfl⟩, HX, hb⟩ := hrel
    have HBB := Lib.hid hb
    obtain ⟨x0, x1, x2⟩ := three_cells HX.out
    have hltb : w.heap.size < wr.heap.size := (Array.getElem?_eq_some_iff.1 HX.out).1
    clear hb
    cases gk with
    | zero =>
      obtain rfl : q = l.length := by omega
      go_wp2_with fail
      go_ret
      exact ⟨_, rfl, HBB.out⟩
    | succ gg =>
      have hqn : q < l.length := by omega
      have hqn' : (q : Int) < (l.length : Int) := by omega
      obtain ⟨d, hd⟩ : ∃ x, l[q]? = some x := ⟨_, List.getElem?_eq_getElem hqn⟩
      obtain ⟨b, p, d0, d1, d2, d3, d4, d5, rfl, hlt, ⟨g0, g1, g2, g3, g4, g5⟩, hT⟩ := defn_at (RowT.below (HBB.out.mono HB0.out) HR.out) hd
      obtain ⟨Af, kf, Ax, kx, Ap, kp, Am, km, e, _, ⟨lf, hf⟩, ⟨lx, hx⟩, ⟨lp, hp⟩, lm, hm⟩ := defn_cells hT
      simp only [List.cons.injEq, and_true] at e
      obtain ⟨rfl, rfl, rfl, rfl, rfl, rfl⟩ := e
      have hlt' : b < wr.heap.size := Nat.lt_of_lt_of_le hlt (Nat.le_trans HB0.out HBB.out.size)
      have hBr := Nat.le_trans HB0.out HBB.out.size
      clear hT hd hlt
      go_upto_region 6 with fail
      clear g0 g1 g2 g3 g4 g5 x0 x1 x2
      have hc := heap_alloc_new wr (.cells #[.int .i64 d.kind, .string d.name, .slice Af d.faces.length kf, .slice Ax d.fields.length kx, .slice Ap d.parts.length kp, .slice Am d.params.length km] 65)
      have hbz := dbelow_new wr (.cells #[.int .i64 d.kind, .string d.name, .slice Af d.faces.length kf, .slice Ax d.fields.length kx, .slice Ap d.parts.length kp, .slice Am d.params.length km] 65)
      have hgz : wr.heap.size < (wr.alloc (.cells #[.int .i64 d.kind, .string d.name, .slice Af d.faces.length kf, .slice Ax d.fields.length kx, .slice Ap d.parts.length kp, .slice Am d.params.length km] 65)).heap.size := by simp
      generalize wr.alloc (.cells #[.int .i64 d.kind, .string d.name, .slice Af d.faces.length kf, .slice Ax d.fields.length kx, .slice Ap d.parts.length kp, .slice Am d.params.length km] 65) = wz at hc hbz hgz ⊢
      have HXZ := Lib.hid ((hbz.block _ hltb).trans HX.out)
      have HBZ := Lib.hid (HBB.out.trans (hbz.mono HBB.out.size))
      have HLZ := Lib.hid (Nat.lt_of_lt_of_le hltb hbz.size)
      have hBz := Nat.le_trans hBr hbz.size
      have t1 : TxtOK wz B Af d.faces.length := ⟨lf, _, (str_row hf).below (hbz.mono hBr)⟩
      have t2 : TxtOK wz B Ap d.parts.length := ⟨lp, _, (str_row hp).below (hbz.mono hBr)⟩
      have LP := fun (wx : World) (h : Below wz.heap.size wz wx) => Lib.hid (lparams_any d.params Am km wx B (Nat.le_trans hBz h.size) lm (RowT.below (h.mono hBz) (RowT.below (hbz.mono hBr) hm)))
      have HFX := Lib.hid (RowT.below (hbz.mono hBr) hx)
      generalize wr.heap.size = gq at hc hgz ⊢
      have HC := Lib.hid hc
      obtain ⟨⟨y0, y1, y2, y3, y4, y5⟩, _⟩ := six_cells hc
      have hE : QD wz gq (.string d.name) (.slice Af d.faces.length kf) (.slice Ap d.parts.length kp) (.slice Am d.params.length km) wz := ⟨y1, y2, y4, y5, Below.refl _ _⟩
      have HGZ := Lib.hid hgz
      have HBz := Lib.hid hBz
      clear hc hbz hm hf hp hx lf lp lm y0 y3 hgz hBz
      go_region_held3 (fun w' => w'.cell? ⟨gq, 1, none⟩ = some (.string d.name) ∧ w'.cell? ⟨gq, 2, none⟩ = some (.slice Af d.faces.length kf) ∧ w'.cell? ⟨gq, 4, none⟩ = some (.slice Ap d.parts.length kp) ∧ w'.cell? ⟨gq, 5, none⟩ = some (.slice Am d.params.length km) ∧ QD wz gq (.string d.name) (.slice Af d.faces.length kf) (.slice Ap d.parts.length kp) (.slice Am d.params.length km) w')
        (first
          | exact QD.written (hE.next HGZ.out (Below.drew (Below.refl _ _)))
          | exact QD.written ((hE.next HGZ.out (Below.drew (Below.refl _ _))).next HGZ.out (by assumption))
          | exact QD.written (hE.next HGZ.out (by assumption))
          | exact QD.written (QD.next (QD.last (by assumption)) HGZ.out (by assumption))
          | go_keep)
        ((first
          | (go_at_call 37; refine (lt_call (by assumption) HBz.out (by first | exact Below.drew (Below.refl _ _) | exact QD.held (by assumption))).mono ?_; rintro e w' ⟨kk, rfl, hb⟩)
          | (go_at_call 38; refine (LP _ (by first | exact Below.drew (Below.refl _ _) | exact QD.held (by assumption))).out.mono ?_; rintro e w' ⟨kk, rfl, hb⟩)))
      all_goals
        have HK := QD.last (by assumption)
        have HW := Lib.hid HK.below
        clear HK hE t1 t2 LP y1 y2 y4 y5
        have y3 := (HW.out.cell (p := ⟨gq, 3, none⟩) HGZ.out).trans (six_cells HC.out).1.2.2.2.1
        go_wp2_with fail
        clear y3
        go_loopg [3, 6] d.fields.length (fun g2 t i wx => ∃ j : Nat, j + g2 = d.fields.length ∧ i = .int .i64 j ∧ (∃ k : Int, t = .int .i64 k) ∧ Below wz.heap.size wz wx)
        case atStart => exact ⟨0, by omega, rfl, ⟨_, rfl⟩, HW.out⟩
        case round =>
          obtain ⟨j, hj, rfl, ⟨kk, rfl⟩, hb⟩ := hrel
          have HBC := Lib.hid hb
          have y3 := (hb.cell (p := ⟨gq, 3, none⟩) HGZ.out).trans (six_cells HC.out).1.2.2.2.1
          clear hb
          cases gk with
          | zero =>
            obtain rfl : j = d.fields.length := by omega
            go_wp2_with fail
            go_roundg gg
            case measure => omega
            case rel => exact ⟨q + 1, by omega, by go_num, ⟨_, rfl⟩, Blk.Aside.intro ((HBC.out.block _ HLZ.out).trans HXZ.out), HBZ.out.trans (HBC.out.mono HBZ.out.size)⟩
          | succ g2 =>
            have hjn : j < d.fields.length := by omega
            have hjn' : (j : Int) < (d.fields.length : Int) := by omega
            obtain ⟨x, hx⟩ : ∃ x, d.fields[j]? = some x := ⟨_, List.getElem?_eq_getElem hjn⟩
            obtain ⟨b2, p2, e0, e1, e2, e3, e4, e5, rfl, hlt2, ⟨f0, f1, f2, f3, f4, f5⟩, hT2⟩ := field_at (RowT.below (HBC.out.mono HBz.out) HFX.out) hx
            obtain ⟨Bp, cp, Bd, cd, e, _, ⟨l1, h1⟩, l5, h5⟩ := fld_cells hT2
            simp only [List.cons.injEq, and_true] at e
            obtain ⟨rfl, rfl, rfl, rfl, rfl, rfl⟩ := e
            have hBk := Nat.le_trans HBz.out HBC.out.size
            have HB2 : Hid (b2 < wr.heap.size) := Lib.hid (Nat.lt_of_lt_of_le hlt2 hBk)
            have HG2 : Hid (gq < wr.heap.size) := Lib.hid (Nat.lt_of_lt_of_le HGZ.out HBC.out.size)
            have LP := fun (wx : World) (h : Below wr.heap.size wr wx) => Lib.hid (lparams_any x.params Bp cp wx B (Nat.le_trans hBk h.size) l1 (RowT.below (h.mono hBk) h1))
            have LD := fun (wx : World) (h : Below wr.heap.size wr wx) => Lib.hid (ldirs_any x.dirs Bd cd wx B (Nat.le_trans hBk h.size) l5 (RowT.below (h.mono hBk) h5))
            have hE : QE wr gq (.slice (some ⟨b2, p2, none⟩) d.fields.length kx) b2 (p2 + j * 6) (.string x.name) (.slice Bp x.params.length cp) (.slice Bd x.dirs.length cd) wr := ⟨y3, f0, f1, f5, Below.refl _ _⟩
            clear hT2 h1 h5 l1 l5 f2 f3 f4 hx hlt2
            go_wp2_with fail
            go_region_held3 (fun w' => w'.cell? ⟨gq, 3, none⟩ = some (.slice (some ⟨b2, p2, none⟩) d.fields.length kx) ∧ w'.cell? ⟨b2, p2 + j * 6, none⟩ = some (.string x.name) ∧ w'.cell? ⟨b2, p2 + j * 6 + 1, none⟩ = some (.slice Bp x.params.length cp) ∧ w'.cell? ⟨b2, p2 + j * 6 + 5, none⟩ = some (.slice Bd x.dirs.length cd) ∧ QE wr gq (.slice (some ⟨b2, p2, none⟩) d.fields.length kx) b2 (p2 + j * 6) (.string x.name) (.slice Bp x.params.length cp) (.slice Bd x.dirs.length cd) w')
              (first
                | exact QE.written (hE.next HG2.out HB2.out (Below.drew (Below.refl _ _)))
                | exact QE.written ((hE.next HG2.out HB2.out (Below.drew (Below.refl _ _))).next HG2.out HB2.out (by assumption))
                | exact QE.written (hE.next HG2.out HB2.out (by assumption))
                | exact QE.written (QE.next (QE.last (by assumption)) HG2.out HB2.out (by assumption))
                | go_keep)
              ((first
                | (go_at_call 39; refine (LD _ (by first | exact Below.drew (Below.refl _ _) | exact QE.held (by assumption))).out.mono ?_; rintro e w' ⟨kk, rfl, hb⟩)
                | (go_at_call 38; refine (LP _ (by first | exact Below.drew (Below.refl _ _) | exact QE.held (by assumption))).out.mono ?_; rintro e w' ⟨kk, rfl, hb⟩)))
            all_goals
              have HK := QE.last (by assumption)
              have HW := Lib.hid (HBC.out.trans (HK.below.mono HBC.out.size))
              clear HK hE LP LD y3 f0 f1 f5
              go_wp2_with fail
              go_roundg g2
              case measure => omega
              case rel => exact ⟨j + 1, by omega, by go_num, ⟨_, rfl⟩, HW.out⟩
end Go.Proofs.YtcfdfgbobnocnaaGreatDoor
namespace Go.Proofs.YtcfdfgbobnocnaaGreatDoor
open Go.RowKit

theorem within_sz {D : List DefnT} {p x : PlT} (h : x ∈ withinL D p) : szV x.v ≤ szV p.v := by
  obtain ⟨tn, tl, tm, hs, k, nn, s, l, m⟩ := p
  have hv : szV (.mk k nn s l m) = 1 + szL l + szM m := by rw [szV]
  unfold withinL at h
  dsimp only at h ⊢
  split at h
  · simp at h
  · split at h
    · split at h
      · unfold elemsL at h
        obtain ⟨v, hv', rfl⟩ := List.mem_map.1 h
        have h1 : szV v ≤ szL l := szL_mem hv'
        show szV v ≤ _
        omega
      · obtain rfl := List.mem_singleton.1 h
        exact Nat.le_refl _
    · split at h
      · unfold memsL at h
        obtain ⟨y, hy, hx⟩ := List.mem_flatMap.1 h
        have h1 : szV y.2 ≤ szM m := szM_mem hy
        split at hx
        · obtain rfl := List.mem_singleton.1 hx
          show szV y.2 ≤ _
          omega
        · simp at hx
      · simp at h
theorem allP_sz (D : List DefnT) : ∀ (n : Nat) (p : PlT), msr p ≤ n → ∀ x, x ∈ allP D p → szV x.v ≤ szV p.v
  | n, p, hn, x, hx => by
    rw [allP_eq] at hx
    rcases List.mem_cons.1 hx with rfl | hx
    · exact Nat.le_refl _
    · obtain ⟨y, hy, hx⟩ := List.mem_flatMap.1 hx
      have h1 := within_msr hy
      have h2 := within_sz hy
      cases n with
      | zero => omega
      | succ n => exact Nat.le_trans (allP_sz D n y (by omega) x hx) h2
theorem ls_sz : ∀ l : VL, l.len ≤ szL l
  | .nil => by rw [VL.len]; omega
  | .cons v t => by
    have := ls_sz t
    have := szV_pos v
    rw [VL.len, szL]
    omega
theorem ms_sz : ∀ l : VM, l.len ≤ szM l
  | .nil => by rw [VM.len]; omega
  | .cons n v t => by
    have := ms_sz t
    have := szV_pos v
    rw [VM.len, szM]
    omega
mutual
theorem sz_size : ∀ v : VT, szV v ≤ sizeV v
  | .mk k n s l m => by
    have := szL_size l
    have := szM_size m
    rw [szV, sizeV]
    omega
theorem szL_size : ∀ l : VL, szL l ≤ sizeL l
  | .nil => by rw [szL]; omega
  | .cons v t => by
    have := sz_size v
    have := szL_size t
    rw [szL, sizeL]
    omega
theorem szM_size : ∀ l : VM, szM l ≤ sizeM l
  | .nil => by rw [szM]; omega
  | .cons n v t => by
    have := sz_size v
    have := szM_size t
    rw [szM, sizeM]
    omega
end
theorem slim_all (D : List DefnT) (p : PlT) (h : szV p.v ≤ 1100000) : ∀ x, x ∈ allP D p → SlimP ((allP D p).map (·.tn)) x := fun x hx => by
  have h1 := allP_sz D _ p (Nat.le_refl _) x hx
  obtain ⟨tn, tl, tm, hs, k, nn, s, l, m⟩ := x
  have hv : szV (.mk k nn s l m) = 1 + szL l + szM m := by rw [szV]
  have h2 := ls_sz l
  have h3 := ms_sz m
  have h1 : szV (.mk k nn s l m) ≤ szV p.v := h1
  refine ⟨List.mem_map.2 ⟨_, hx, rfl⟩, ?_, ?_⟩
  · show m.len * 120 ≤ _; omega
  · show l.len * 80 ≤ _; omega
theorem right_gen (S : SchT) (n : ByteArray) (l m : Int) (v : VT) (c0 c1 c2 : Value) (A3 A4 : Option Addr) (k3 k4 : Nat) (w : World) (B : Nat) (hB : B ≤ w.heap.size) (hw : Laid5 w) (hz : SlimS S) (hvz : sizeV v ≤ 1100000) (hnm : n.size ≤ 9223372036854775807)
    (hS : TS w (fun b => b < B) (encSch S) [c0, c1, c2]) (hV : TS w (fun b => b < B) (encV v) [.int .i64 v.kd, .int .i64 v.nn, .string v.ss, .slice A3 v.ls.len k3, .slice A4 v.ms.len k4]) :
    Calls Tryz.prog 13 #[.agg #[c0, c1, c2], .agg #[.string n, .int .i64 l, .int .i64 m], .agg #[.int .i64 v.kd, .int .i64 v.nn, .string v.ss, .slice A3 v.ls.len k3, .slice A4 v.ms.len k4]] w fun e w' => e = .returned (.bool (rightL S.defs ⟨n, l, m, false, v⟩)) ∧ Below w.heap.size w w' := by
  have hs := Nat.le_trans (sz_size v) hvz
  have hb := allP_bd S.defs ⟨n, l, m, false, v⟩
  have hb : (allP S.defs ⟨n, l, m, false, v⟩).length ≤ 5 * szV v := hb
  exact right_any S n l m v c0 c1 c2 A3 A4 k3 k4 w B hB hw hz hvz _ rfl _ (by rw [List.length_map]; unfold maxLen; omega) (slim_all S.defs ⟨n, l, m, false, v⟩ hs) (by omega) hnm hS hV
theorem spots_gen (S : SchT) (n : ByteArray) (l m : Int) (hs : Bool) (v : VT) (c0 c1 c2 : Value) (A3 A4 : Option Addr) (k3 k4 : Nat) (w : World) (B : Nat) (hB : B ≤ w.heap.size) (hz : SlimS S) (hvz : sizeV v ≤ 1100000) (hnm : n.size ≤ 9223372036854775807)
    (hS : TS w (fun b => b < B) (encSch S) [c0, c1, c2]) (hV : TS w (fun b => b < B) (encV v) [.int .i64 v.kd, .int .i64 v.nn, .string v.ss, .slice A3 v.ls.len k3, .slice A4 v.ms.len k4]) :
    Calls Tryz.prog 11 #[.agg #[c0, c1, c2], .agg #[.string n, .int .i64 l, .int .i64 m], .bool hs, .agg #[.int .i64 v.kd, .int .i64 v.nn, .string v.ss, .slice A3 v.ls.len k3, .slice A4 v.ms.len k4]] w fun e w' => ∃ V, e = .returned V ∧ (∃ b, w.heap.size ≤ b ∧ w'.ownsRow b 42 5 V (spotsOf (allP S.defs ⟨n, l, m, hs, v⟩)).length ((spotsOf (allP S.defs ⟨n, l, m, hs, v⟩)).flatMap spotC)) ∧ Below w.heap.size w w' := by
  have hs' := Nat.le_trans (sz_size v) hvz
  have hb := allP_bd S.defs ⟨n, l, m, hs, v⟩
  have hb : (allP S.defs ⟨n, l, m, hs, v⟩).length ≤ 5 * szV v := hb
  exact spots_any S n l m hs v c0 c1 c2 A3 A4 k3 k4 w B hB hz _ rfl _ (by rw [List.length_map]; unfold maxLen; omega) (slim_all S.defs ⟨n, l, m, hs, v⟩ hs') (by omega) hnm hS hV
/-- What may stand for a list: just if it may stand for its item. -/
theorem right_item (D : List DefnT) (n : ByteArray) (l m : Int) (v : VT) (hi : itemB n l m = true) (h6 : v.kd ≠ 6) (h8 : v.kd ≠ 8) (h0 : v.kd ≠ 0) : rightL D ⟨n, l, m, false, v⟩ = rightL D ⟨n, l - 1, m / 2, false, v⟩ := by
  have hw : withinL D ⟨n, l, m, false, v⟩ = [⟨n, l - 1, m / 2, false, v⟩] := by
    unfold withinL
    rw [if_neg (by rintro (h | h); exact h8 h; exact h0 h), if_pos hi, if_neg h6]
  have hr : rightT n.data.toList l m = true := by
    unfold itemB at hi
    rw [Bool.and_eq_true] at hi
    exact hi.1
  have hf : fitsB D n l m v = true := by
    unfold fitsB
    simp [hr, h0, hi, h6]
  unfold rightL
  rw [allP_eq, hw, List.all_cons, List.flatMap_cons, List.flatMap_nil, List.append_nil]
  dsimp only
  rw [hf, Bool.true_and]
/-- seinelaw10.light: some answer, nothing turns. -/
theorem lightv_any (S : SchT) (v : VT) (c0 c1 c2 : Value) (A3 A4 : Option Addr) (k3 k4 : Nat) (w : World) (hS : TS w (fun b => b < w.heap.size) (encSch S) [c0, c1, c2]) (hV : TS w (fun b => b < w.heap.size) (encV v) [.int .i64 v.kd, .int .i64 v.nn, .string v.ss, .slice A3 v.ls.len k3, .slice A4 v.ms.len k4]) :
    Calls Tryz.prog 7 #[.agg #[c0, c1, c2], .agg #[.int .i64 v.kd, .int .i64 v.nn, .string v.ss, .slice A3 v.ls.len k3, .slice A4 v.ms.len k4]] w (SomeB w) := by
  have LT := Lib.hid (fun (wx : World) (h : Below w.heap.size w wx) => light_any S c0 c1 c2 wx w.heap.size h.size (TS.low h hS))
  have SZ := Lib.hid (fun (wx : World) (h : Below w.heap.size w wx) => vsize_any (sizeV v) v (Nat.le_refl _) _ _ _ _ _ wx w.heap.size h.size (ts_vat (TS.low h hV)))
  obtain ⟨A, k, e, _⟩ := sch_cells hS
  injection e with e0 e
  injection e with e1 e
  injection e with e2 e
  subst e0 e1 e2
  generalize W64 (sizeV v) = sz at SZ
  have N0 := Lib.hid (NB.start w (.cells #[.slice A S.defs.length k, .string S.query, .string S.mutation] 24) (.cells #[.int .i64 v.kd, .int .i64 v.nn, .string v.ss, .slice A3 v.ls.len k3, .slice A4 v.ms.len k4] 30))
  clear hS hV
  go_enter Tryz.func7, Tryz.ntmps7
  go_upto_region 1 with fail
  generalize (w.alloc (.cells #[.slice A S.defs.length k, .string S.query, .string S.mutation] 24)).alloc (.cells #[.int .i64 v.kd, .int .i64 v.nn, .string v.ss, .slice A3 v.ls.len k3, .slice A4 v.ms.len k4] 30) = w1 at N0 ⊢
  obtain ⟨x0, x1, x2⟩ := three_cells N0.out.b0
  go_wp2_with fail
  refine (LT.out _ N0.out.low).mono ?_
  rintro e w2 ⟨b, rfl, hb⟩
  have N2 := Lib.hid (N0.out.next hb)
  clear hb x0 x1 x2 N0
  cases b
  · go_wp2_with fail
    go_ret
    exact ⟨_, rfl, N2.out.low⟩
  · obtain ⟨y0, y1, y2, y3, y4⟩ := five_box N2.out.b1
    go_wp2_with fail
    refine (SZ.out _ N2.out.low).mono ?_
    rintro e w3 ⟨rfl, hb⟩
    have N3 := Lib.hid (N2.out.next hb)
    clear hb y0 y1 y2 y3 y4 N2
    go_wp2_with fail
    go_ret
    exact ⟨_, rfl, N3.out.low⟩
end Go.Proofs.YtcfdfgbobnocnaaGreatDoor
namespace Go.Proofs.YtcfdfgbobnocnaaGreatDoor
open Go.ChangeShapes Go.WideShapes Go.ChangeAt Go.RowKit

mutual
theorem vat_vp {w : World} {B : Nat} : ∀ (v : VT) (c0 c1 c2 c3 c4 : Value), VAt w B v c0 c1 c2 c3 c4 → VP w (fun b => b < B) v c0 c1 c2 c3 c4
  | .mk k n s l m, c0, c1, c2, c3, c4, h => by
    unfold VAt at h
    unfold VP
    obtain ⟨h0, h1, h2, hs, ⟨A, c, h3, g3, h4⟩, A', c', h5, g5, h6⟩ := h
    exact ⟨h0, h1, h2, hs, ⟨A, c, h3, g3, lat_lp l A 0 h4⟩, A', c', h5, g5, mat_mp m A' 0 h6⟩
theorem lat_lp {w : World} {B : Nat} : ∀ (l : VL) (A : Option Addr) (j : Nat), LAt w B l A j → LP w (fun b => b < B) l A j
  | .nil, _, _, _ => by unfold LP; trivial
  | .cons v t, A, j, h => by
    unfold LAt at h
    unfold LP
    obtain ⟨⟨b, o, c0, c1, c2, c3, c4, hA, hlt, hf, hv⟩, ht⟩ := h
    exact ⟨⟨b, o, c0, c1, c2, c3, c4, hA, hlt, hf, vat_vp v _ _ _ _ _ hv⟩, lat_lp t A (j + 1) ht⟩
theorem mat_mp {w : World} {B : Nat} : ∀ (l : VM) (A : Option Addr) (j : Nat), MAt w B l A j → MP w (fun b => b < B) l A j
  | .nil, _, _, _ => by unfold MP; trivial
  | .cons nm v t, A, j, h => by
    unfold MAt at h
    unfold MP
    obtain ⟨⟨b, o, c0, c1, c2, c3, c4, hA, hlt, hn, hz, hf, hv⟩, ht⟩ := h
    exact ⟨⟨b, o, c0, c1, c2, c3, c4, hA, hlt, hn, hz, hf, vat_vp v _ _ _ _ _ hv⟩, mat_mp t A (j + 1) ht⟩
end
theorem vat_ts {w : World} {B : Nat} {v : VT} {c0 c1 c2 c3 c4 : Value} (h : VAt w B v c0 c1 c2 c3 c4) : ∃ A3 k3 A4 k4, c0 = .int .i64 v.kd ∧ c1 = .int .i64 v.nn ∧ c2 = .string v.ss ∧ c3 = .slice A3 v.ls.len k3 ∧ c4 = .slice A4 v.ms.len k4 ∧ TS w (fun b => b < B) (encV v) [.int .i64 v.kd, .int .i64 v.nn, .string v.ss, .slice A3 v.ls.len k3, .slice A4 v.ms.len k4] := by
  have ht := vp_ts _ _ _ _ _ _ (vat_vp v _ _ _ _ _ h)
  obtain ⟨k, n, s, l, m⟩ := v
  unfold VAt at h
  obtain ⟨rfl, rfl, rfl, _, ⟨A, c, rfl, _, _⟩, A', c', rfl, _, _⟩ := h
  exact ⟨A, c, A', c', rfl, rfl, rfl, rfl, rfl, ht⟩
set_option maxRecDepth 100000 in
theorem open_tyA {H : Type} {enc : TypeId × Value → H} {W : World} {base : Nat} {v : Value} {d : DataW H} {ps : List MemPlace} (hval : Value.okWide Tryz.prog W .any base 26 v) (hd : DataW.Trod enc Tryz.prog W 0 (fun _ => true) true 26 v d ps) : ∃ (n : ByteArray) (l m : Int), v = .agg #[.string n, .int .i64 l, .int .i64 m] ∧ n.size ≤ 9223372036854775807 := by
  obtain ⟨cs, rfl, hsz⟩ := okWide_struct Tryz.underlying26 hval
  obtain ⟨fuel, hf⟩ := hd
  obtain ⟨L⟩ := cs
  rw [ocTy] at hsz
  match L, hsz with
  | [a, b, c], _ =>
    obtain ⟨n, l, m, rfl, rfl, rfl, hn⟩ := open_ty hf
    exact ⟨n, l, m, rfl, hn⟩
theorem list_tsA {w : World} {B : Nat} {l : VL} {A : Option Addr} {c : Nat} (hl : l.len ≤ 9223372036854775807) (h : LAt w B l A 0) : TS w (fun b => b < B) (encV (.mk 6 0 ⟨#[]⟩ l .nil)) [.int .i64 6, .int .i64 0, .string ⟨#[]⟩, .slice A l.len c, .slice none 0 0] := by
  have hU : VAt w B (.mk 6 0 ⟨#[]⟩ l .nil) (.int .i64 6) (.int .i64 0) (.string ⟨#[]⟩) (.slice A l.len c) (.slice none 0 0) := by
    unfold VAt
    exact ⟨rfl, rfl, rfl, Nat.zero_le _, ⟨A, c, rfl, hl, h⟩, none, 0, rfl, Nat.zero_le _, by unfold MAt; trivial⟩
  exact vp_ts _ _ _ _ _ _ (vat_vp _ _ _ _ _ _ hU)
end Go.Proofs.YtcfdfgbobnocnaaGreatDoor
