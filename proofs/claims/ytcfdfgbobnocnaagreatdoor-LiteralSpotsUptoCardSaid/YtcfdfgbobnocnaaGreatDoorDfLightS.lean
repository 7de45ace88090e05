/- seinelaw8.Light over a schema: some answer, and nothing turns. -/
import Derived.Test.YtcfdfgbobnocnaaGreatDoorDfFind
import Derived.Test.YtcfdfgbobnocnaaGreatDoorVSize
import Derived.Test.YtcfdfgbobnocnaaGreatDoorLtM
namespace Go.Proofs.YtcfdfgbobnocnaaGreatDoor
open Go.RowKit

/-- Some number. -/
def SomeI (w : World) (e : Ending) (w' : World) : Prop := ∃ k : Int, e = .returned (.int .i64 k) ∧ Below w.heap.size w w'
/-- Some answer. -/
def SomeB (w : World) (e : Ending) (w' : World) : Prop := ∃ b : Bool, e = .returned (.bool b) ∧ Below w.heap.size w w'
set_option maxRecDepth 100000 in
set_option maxHeartbeats 4000000 in
theorem ltexts_any (A : Option Addr) (n c : Nat) (xs : List ByteArray) (w : World) (hn : n ≤ 9223372036854775807) (ha : Blk.StrsAt w w.heap.size A n xs) :
    Calls Tryz.prog 37 #[.slice A n c] w (SomeI w) := by
  have HA := Lib.hid ha
  clear ha
  go_enter Tryz.func37, Tryz.ntmps37
  go_wp2_with fail
  go_loopg [3, 4] n (fun g t i wx => ∃ q : Nat, q + g = n ∧ i = .int .i64 q ∧ (∃ k : Int, t = .int .i64 k) ∧ Below w.heap.size w wx)
  case atStart => exact ⟨0, by omega, rfl, ⟨0, rfl⟩, Below.refl _ _⟩
  case round =>
    obtain ⟨q, hq, rfl, ⟨k, rfl⟩, hb⟩ := hrel
    have HBB := Lib.hid hb
    clear hb
    cases gk with
    | zero =>
      obtain rfl : q = n := by omega
      go_wp2_with fail
      go_ret
      exact ⟨_, rfl, HBB.out⟩
    | succ g =>
      have hlt : q < n := by omega
      have hlt' : (q : Int) < (n : Int) := by omega
      obtain ⟨x, hx⟩ : ∃ x, xs[q]? = some x := ⟨_, List.getElem?_eq_getElem (by rw [HA.out.1]; omega)⟩
      obtain ⟨b1, o1, rfl, hl1, c1⟩ := HA.out.2 q x hx
      have c1 := (HBB.out.cell (p := ⟨b1, o1 + q, none⟩) hl1).trans c1
      clear hx
      go_wp2_with fail
      first
        | (go_roundg g
           case measure => omega
           case rel => exact ⟨q + 1, by omega, by go_num, ⟨_, rfl⟩, HBB.out⟩)
        | (go_quiet (fail)
           go_wp2_with fail
           go_roundg g
           case measure => omega
           case rel => exact ⟨q + 1, by omega, by go_num, ⟨_, rfl⟩, Blk.below_draws HBB.out _⟩)
theorem par_at {w : World} {B : Nat} {l : List VarT} {A : Option Addr} {q : Nat} {x : VarT} (h : RowT w (fun b => b < B) (rowOf encVar l) A) (hx : l[q]? = some x) :
    ∃ b p d0 d1 d2 d3 d4, A = some ⟨b, p, none⟩ ∧ b < B ∧ w.cell? ⟨b, p + q * 10, none⟩ = some (.string x.name) ∧ Five w b (p + q * 10 + 5) d0 d1 d2 d3 d4 ∧ VAt w B x.v d0 d1 d2 d3 d4 := by
  obtain ⟨b, p, cs, e, hb, hc, h1⟩ := rowOf_at 10 (fun x => by unfold encVar; simp only [TrS.len, encV_len]) h hx
  simp only [encVar, TS, TP] at h1
  obtain ⟨c0, _, rfl, ⟨rfl, _⟩, c1, _, rfl, ⟨rfl, _⟩, c2, _, rfl, ⟨rfl, _⟩, c3, _, rfl, ⟨rfl, _⟩, c4, ys, rfl, ⟨rfl, _⟩, h2⟩ := h1
  obtain ⟨d0, d1, d2, d3, d4, rfl, hv⟩ := ts_vp _ _ h2
  exact ⟨b, p, d0, d1, d2, d3, d4, e, hb, hc 0 _ rfl, ⟨hc 5 _ rfl, hc 6 _ rfl, hc 7 _ rfl, hc 8 _ rfl, hc 9 _ rfl⟩, VP.at (fun _ h => h) _ _ _ _ _ _ hv⟩
/-- The cells that a round reads, and that nothing has turned. -/
def K6 (w : World) (b O : Nat) (nm d0 d1 d2 d3 d4 : Value) (W : World) : Prop := W.cell? ⟨b, O, none⟩ = some nm ∧ Five W b (O + 5) d0 d1 d2 d3 d4 ∧ Below w.heap.size w W
theorem K6.next {w W W' : World} {b O : Nat} {nm d0 d1 d2 d3 d4 : Value} (h : K6 w b O nm d0 d1 d2 d3 d4 W) (hl : b < w.heap.size) (hb : Below W.heap.size W W') : K6 w b O nm d0 d1 d2 d3 d4 W' := by
  obtain ⟨hn, hF, hK⟩ := h
  have g := Nat.lt_of_lt_of_le hl hK.size
  exact ⟨(hb.cell (p := ⟨b, _, none⟩) g).trans hn, hF.below hb g, hK.trans (hb.mono hK.size)⟩
theorem K6.written {w W : World} {b O : Nat} {nm d0 d1 d2 d3 d4 : Value} (h : K6 w b O nm d0 d1 d2 d3 d4 W) : W.cell? ⟨b, O, none⟩ = some nm ∧ W.cell? ⟨b, O + 5, none⟩ = some d0 ∧ W.cell? ⟨b, O + 5 + 1, none⟩ = some d1 ∧ W.cell? ⟨b, O + 5 + 2, none⟩ = some d2 ∧ W.cell? ⟨b, O + 5 + 3, none⟩ = some d3 ∧ W.cell? ⟨b, O + 5 + 4, none⟩ = some d4 ∧ K6 w b O nm d0 d1 d2 d3 d4 W :=
  ⟨h.1, h.2.1.1, h.2.1.2.1, h.2.1.2.2.1, h.2.1.2.2.2.1, h.2.1.2.2.2.2, h⟩
theorem K6.below {w W : World} {b O : Nat} {nm d0 d1 d2 d3 d4 : Value} (h : K6 w b O nm d0 d1 d2 d3 d4 W) : Below w.heap.size w W := h.2.2
set_option maxRecDepth 100000 in
set_option maxHeartbeats 4000000 in
theorem lparams_any (l : List VarT) (A : Option Addr) (c : Nat) (w : World) (B : Nat) (hB : B ≤ w.heap.size) (hn : l.length ≤ 9223372036854775807) (hR : RowT w (fun b => b < B) (rowOf encVar l) A) :
    Calls Tryz.prog 38 #[.slice A l.length c] w (SomeI w) := by
  have HR := Lib.hid hR
  have HB0 := Lib.hid hB
  clear hR hB
  go_enter Tryz.func38, Tryz.ntmps38
  go_wp2_with fail
  go_loopg [3, 4] l.length (fun g t i wx => ∃ q : Nat, q + g = l.length ∧ i = .int .i64 q ∧ (∃ k : Int, t = .int .i64 k) ∧ Below w.heap.size w wx)
  case atStart => exact ⟨0, by omega, rfl, ⟨0, rfl⟩, Below.refl _ _⟩
  case round =>
    obtain ⟨q, hq, rfl, ⟨k, rfl⟩, hb⟩ := hrel
    have HBB := Lib.hid hb
    clear hb
    cases gk with
    | zero =>
      obtain rfl : q = l.length := by omega
      go_wp2_with fail
      go_ret
      exact ⟨_, rfl, HBB.out⟩
    | succ g =>
      have hqn : q < l.length := by omega
      have hqn' : (q : Int) < (l.length : Int) := by omega
      obtain ⟨x, hx⟩ : ∃ x, l[q]? = some x := ⟨_, List.getElem?_eq_getElem hqn⟩
      obtain ⟨b, p, d0, d1, d2, d3, d4, rfl, hlt, hnm, hF, hV⟩ := par_at (RowT.below (HBB.out.mono HB0.out) HR.out) hx
      have HBX := Nat.le_trans HB0.out HBB.out.size
      have HBW : Hid (b < wr.heap.size) := Lib.hid (Nat.lt_of_lt_of_le hlt HBX)
      have hE : K6 wr b (p + q * 10) (.string x.name) d0 d1 d2 d3 d4 wr := ⟨hnm, hF, Below.refl _ _⟩
      obtain ⟨f0, f1, f2, f3, f4, f5, _⟩ := hE.written
      have C := fun (wx : World) (hx : Below wr.heap.size wr wx) => Lib.hid (vsize_any _ x.v (Nat.le_refl _) d0 d1 d2 d3 d4 wx B (Nat.le_trans HBX hx.size) (VAt.below (hx.mono HBX) _ _ _ _ _ _ hV))
      clear hV hF hnm hx hlt HBX
      go_wp2_with fail
      go_region_held3 (fun w' => w'.cell? ⟨b, p + q * 10, none⟩ = some (.string x.name) ∧ w'.cell? ⟨b, p + q * 10 + 5, none⟩ = some d0 ∧ w'.cell? ⟨b, p + q * 10 + 5 + 1, none⟩ = some d1 ∧ w'.cell? ⟨b, p + q * 10 + 5 + 2, none⟩ = some d2 ∧ w'.cell? ⟨b, p + q * 10 + 5 + 3, none⟩ = some d3 ∧ w'.cell? ⟨b, p + q * 10 + 5 + 4, none⟩ = some d4 ∧ K6 wr b (p + q * 10) (.string x.name) d0 d1 d2 d3 d4 w')
        (first
          | exact K6.written (hE.next HBW.out (Below.drew (Below.refl _ _)))
          | exact K6.written ((hE.next HBW.out (Below.drew (Below.refl _ _))).next HBW.out (by assumption))
          | exact K6.written (hE.next HBW.out (by assumption))
          | exact K6.written (K6.next (by assumption) HBW.out (by assumption))
          | go_keep)
        ((first | (go_at_call 23; refine (C _ (by first | exact Below.drew (Below.refl _ _) | exact K6.below (by assumption))).out.mono ?_; rintro e w' ⟨rfl, hb⟩)))
      all_goals
        have HK : K6 wr b (p + q * 10) (.string x.name) d0 d1 d2 d3 d4 w' := And.right (And.right (And.right (And.right (And.right (And.right (by assumption))))))
        have HKB := Lib.hid (HBB.out.trans (HK.2.2.mono HBB.out.size))
        clear HK hE C f0 f1 f2 f3 f4 f5
        go_wp2_with fail
        go_roundg g
        case measure => omega
        case rel => exact ⟨q + 1, by omega, by go_num, ⟨_, rfl⟩, HKB.out⟩
/-- The same, of two cells. -/
def K2 (w : World) (b O : Nat) (nm v : Value) (W : World) : Prop := W.cell? ⟨b, O, none⟩ = some nm ∧ W.cell? ⟨b, O + 1, none⟩ = some v ∧ Below w.heap.size w W
theorem K2.next {w W W' : World} {b O : Nat} {nm v : Value} (h : K2 w b O nm v W) (hl : b < w.heap.size) (hb : Below W.heap.size W W') : K2 w b O nm v W' := by
  obtain ⟨hn, hF, hK⟩ := h
  have g := Nat.lt_of_lt_of_le hl hK.size
  exact ⟨(hb.cell (p := ⟨b, _, none⟩) g).trans hn, (hb.cell (p := ⟨b, _, none⟩) g).trans hF, hK.trans (hb.mono hK.size)⟩
theorem K2.written {w W : World} {b O : Nat} {nm v : Value} (h : K2 w b O nm v W) : W.cell? ⟨b, O, none⟩ = some nm ∧ W.cell? ⟨b, O + 1, none⟩ = some v ∧ K2 w b O nm v W := ⟨h.1, h.2.1, h⟩
theorem K2.below {w W : World} {b O : Nat} {nm v : Value} (h : K2 w b O nm v W) : Below w.heap.size w W := h.2.2
set_option maxRecDepth 100000 in
set_option maxHeartbeats 4000000 in
theorem ldirs_any (l : List DirT) (A : Option Addr) (c : Nat) (w : World) (B : Nat) (hB : B ≤ w.heap.size) (hn : l.length ≤ 9223372036854775807) (hR : RowT w (fun b => b < B) (rowOf encD l) A) :
    Calls Tryz.prog 39 #[.slice A l.length c] w (SomeI w) := by
  have HR := Lib.hid hR
  have HB0 := Lib.hid hB
  clear hR hB
  go_enter Tryz.func39, Tryz.ntmps39
  go_wp2_with fail
  go_loopg [3, 4] l.length (fun g t i wx => ∃ q : Nat, q + g = l.length ∧ i = .int .i64 q ∧ (∃ k : Int, t = .int .i64 k) ∧ Below w.heap.size w wx)
  case atStart => exact ⟨0, by omega, rfl, ⟨0, rfl⟩, Below.refl _ _⟩
  case round =>
    obtain ⟨q, hq, rfl, ⟨k, rfl⟩, hb⟩ := hrel
    have HBB := Lib.hid hb
    clear hb
    cases gk with
    | zero =>
      obtain rfl : q = l.length := by omega
      go_wp2_with fail
      go_ret
      exact ⟨_, rfl, HBB.out⟩
    | succ g =>
      have hqn : q < l.length := by omega
      have hqn' : (q : Int) < (l.length : Int) := by omega
      obtain ⟨⟨nm, m⟩, hx⟩ : ∃ x, l[q]? = some x := ⟨_, List.getElem?_eq_getElem hqn⟩
      obtain ⟨b, p, A2, k2, rfl, hlt, hnm, hF, hml, hV⟩ := dir_at (RowT.below (HBB.out.mono HB0.out) HR.out) hx
      have HBX := Nat.le_trans HB0.out HBB.out.size
      have HBW : Hid (b < wr.heap.size) := Lib.hid (Nat.lt_of_lt_of_le hlt HBX)
      have hE : K2 wr b (p + q * 2) (.string nm) (.slice A2 m.len k2) wr := ⟨hnm, hF, Below.refl _ _⟩
      obtain ⟨f0, f1, _⟩ := hE.written
      have C := fun (wx : World) (hx : Below wr.heap.size wr wx) => Lib.hid (vsize_any _ (.mk 0 0 ⟨#[]⟩ .nil m) (Nat.le_refl _) (.int .i64 0) (.int .i64 0) (.string ⟨#[]⟩) (.slice none 0 0) (.slice A2 m.len k2) wx B (Nat.le_trans HBX hx.size) (by
        unfold VAt
        exact ⟨rfl, rfl, rfl, by decide, ⟨none, 0, rfl, by simp [VL.len], by unfold LAt; trivial⟩, A2, k2, rfl, hml, MAt.below (hx.mono HBX) _ _ _ hV⟩))
      clear hV hF hnm hx hlt HBX hml
      go_wp2_with fail
      go_region_held3 (fun w' => w'.cell? ⟨b, p + q * 2, none⟩ = some (.string nm) ∧ w'.cell? ⟨b, p + q * 2 + 1, none⟩ = some (.slice A2 m.len k2) ∧ K2 wr b (p + q * 2) (.string nm) (.slice A2 m.len k2) w')
        (first
          | exact K2.written (hE.next HBW.out (Below.drew (Below.refl _ _)))
          | exact K2.written ((hE.next HBW.out (Below.drew (Below.refl _ _))).next HBW.out (by assumption))
          | exact K2.written (hE.next HBW.out (by assumption))
          | exact K2.written (K2.next (by assumption) HBW.out (by assumption))
          | go_keep)
        ((first | (go_at_call 23; refine (C _ (by first | exact Below.drew (Below.refl _ _) | exact K2.below (by assumption))).out.mono ?_; rintro e w' ⟨rfl, hb⟩)))
      all_goals
        have HK : K2 wr b (p + q * 2) (.string nm) (.slice A2 m.len k2) w' := And.right (And.right (by assumption))
        have HKB := Lib.hid (HBB.out.trans (HK.2.2.mono HBB.out.size))
        clear HK hE C f0 f1
        go_wp2_with fail
        go_roundg g
        case measure => omega
        case rel => exact ⟨q + 1, by omega, by go_num, ⟨_, rfl⟩, HKB.out⟩
end Go.Proofs.YtcfdfgbobnocnaaGreatDoor
namespace Go.Proofs.YtcfdfgbobnocnaaGreatDoor
open Go.RowKit

theorem field_at {w : World} {P : Nat → Prop} {l : List FieldT} {A : Option Addr} {q : Nat} {d : FieldT} (h : RowT w P (rowOf encField l) A) (hx : l[q]? = some d) :
    ∃ b p c0 c1 c2 c3 c4 c5, A = some ⟨b, p, none⟩ ∧ P b ∧ (w.cell? ⟨b, p + q * 6, none⟩ = some c0 ∧ w.cell? ⟨b, p + q * 6 + 1, none⟩ = some c1 ∧ w.cell? ⟨b, p + q * 6 + 2, none⟩ = some c2 ∧ w.cell? ⟨b, p + q * 6 + 3, none⟩ = some c3 ∧ w.cell? ⟨b, p + q * 6 + 4, none⟩ = some c4 ∧ w.cell? ⟨b, p + q * 6 + 5, none⟩ = some c5) ∧ TS w P (encField d) [c0, c1, c2, c3, c4, c5] := by
  obtain ⟨b, p, cs, e, hb, hc, h1⟩ := rowOf_at 6 (fun _ => rfl) h hx
  obtain ⟨Ap, kp, Ad, kd, rfl, _⟩ := fld_cells h1
  exact ⟨b, p, _, _, _, _, _, _, e, hb, ⟨hc 0 _ rfl, hc 1 _ rfl, hc 2 _ rfl, hc 3 _ rfl, hc 4 _ rfl, hc 5 _ rfl⟩, h1⟩
end Go.Proofs.YtcfdfgbobnocnaaGreatDoor
namespace Go.Proofs.YtcfdfgbobnocnaaGreatDoor
open Go.RowKit

/-- A row of texts that may be counted. -/
def TxtOK (w : World) (B : Nat) (A : Option Addr) (n : Nat) : Prop := n ≤ 9223372036854775807 ∧ ∃ xs, Blk.StrsAt w B A n xs
theorem lt_call {wz wx : World} {B : Nat} {A : Option Addr} {n c : Nat} (h : TxtOK wz B A n) (hB : B ≤ wz.heap.size) (hb : Below wz.heap.size wz wx) : Calls Tryz.prog 37 #[.slice A n c] wx (SomeI wx) := by
  obtain ⟨hn, xs, hx⟩ := h
  exact ltexts_any A n c xs wx hn ((hx.below (hb.mono hB)).more (Nat.le_trans hB hb.size))
/-- The box of a definition. -/
def QD (wz : World) (g : Nat) (c1 c2 c4 c5 : Value) (W : World) : Prop := W.cell? ⟨g, 1, none⟩ = some c1 ∧ W.cell? ⟨g, 2, none⟩ = some c2 ∧ W.cell? ⟨g, 4, none⟩ = some c4 ∧ W.cell? ⟨g, 5, none⟩ = some c5 ∧ Below wz.heap.size wz W
theorem QD.next {wz W W' : World} {g : Nat} {c1 c2 c4 c5 : Value} (h : QD wz g c1 c2 c4 c5 W) (hl : g < wz.heap.size) (hb : Below W.heap.size W W') : QD wz g c1 c2 c4 c5 W' := by
  obtain ⟨h1, h2, h4, h5, hK⟩ := h
  have q := Nat.lt_of_lt_of_le hl hK.size
  exact ⟨(hb.cell (p := ⟨g, _, none⟩) q).trans h1, (hb.cell (p := ⟨g, _, none⟩) q).trans h2, (hb.cell (p := ⟨g, _, none⟩) q).trans h4, (hb.cell (p := ⟨g, _, none⟩) q).trans h5, hK.trans (hb.mono hK.size)⟩
theorem QD.written {wz W : World} {g : Nat} {c1 c2 c4 c5 : Value} (h : QD wz g c1 c2 c4 c5 W) : W.cell? ⟨g, 1, none⟩ = some c1 ∧ W.cell? ⟨g, 2, none⟩ = some c2 ∧ W.cell? ⟨g, 4, none⟩ = some c4 ∧ W.cell? ⟨g, 5, none⟩ = some c5 ∧ QD wz g c1 c2 c4 c5 W := ⟨h.1, h.2.1, h.2.2.1, h.2.2.2.1, h⟩
theorem QD.below {wz W : World} {g : Nat} {c1 c2 c4 c5 : Value} (h : QD wz g c1 c2 c4 c5 W) : Below wz.heap.size wz W := h.2.2.2.2
theorem QD.held {wz W : World} {g : Nat} {c1 c2 c4 c5 : Value} {p1 p2 p3 p4 : Prop} (h : p1 ∧ p2 ∧ p3 ∧ p4 ∧ QD wz g c1 c2 c4 c5 W) : Below wz.heap.size wz W := h.2.2.2.2.below
theorem QD.last {wz W : World} {g : Nat} {c1 c2 c4 c5 : Value} {p1 p2 p3 p4 : Prop} (h : p1 ∧ p2 ∧ p3 ∧ p4 ∧ QD wz g c1 c2 c4 c5 W) : QD wz g c1 c2 c4 c5 W := h.2.2.2.2
/-- The box's row of fields, and the field at hand. -/
def QE (wz : World) (g : Nat) (c3 : Value) (b O : Nat) (nm v1 v5 : Value) (W : World) : Prop := W.cell? ⟨g, 3, none⟩ = some c3 ∧ W.cell? ⟨b, O, none⟩ = some nm ∧ W.cell? ⟨b, O + 1, none⟩ = some v1 ∧ W.cell? ⟨b, O + 5, none⟩ = some v5 ∧ Below wz.heap.size wz W
theorem QE.next {wz W W' : World} {g b O : Nat} {c3 nm v1 v5 : Value} (h : QE wz g c3 b O nm v1 v5 W) (hl : g < wz.heap.size) (hl2 : b < wz.heap.size) (hb : Below W.heap.size W W') : QE wz g c3 b O nm v1 v5 W' := by
  obtain ⟨h1, h2, h4, h5, hK⟩ := h
  have q := Nat.lt_of_lt_of_le hl hK.size
  have q2 := Nat.lt_of_lt_of_le hl2 hK.size
  exact ⟨(hb.cell (p := ⟨g, _, none⟩) q).trans h1, (hb.cell (p := ⟨b, _, none⟩) q2).trans h2, (hb.cell (p := ⟨b, _, none⟩) q2).trans h4, (hb.cell (p := ⟨b, _, none⟩) q2).trans h5, hK.trans (hb.mono hK.size)⟩
theorem QE.written {wz W : World} {g b O : Nat} {c3 nm v1 v5 : Value} (h : QE wz g c3 b O nm v1 v5 W) : W.cell? ⟨g, 3, none⟩ = some c3 ∧ W.cell? ⟨b, O, none⟩ = some nm ∧ W.cell? ⟨b, O + 1, none⟩ = some v1 ∧ W.cell? ⟨b, O + 5, none⟩ = some v5 ∧ QE wz g c3 b O nm v1 v5 W := ⟨h.1, h.2.1, h.2.2.1, h.2.2.2.1, h⟩
theorem QE.below {wz W : World} {g b O : Nat} {c3 nm v1 v5 : Value} (h : QE wz g c3 b O nm v1 v5 W) : Below wz.heap.size wz W := h.2.2.2.2
theorem QE.last {wz W : World} {g b O : Nat} {c3 nm v1 v5 : Value} {p1 p2 p3 p4 : Prop} (h : p1 ∧ p2 ∧ p3 ∧ p4 ∧ QE wz g c3 b O nm v1 v5 W) : QE wz g c3 b O nm v1 v5 W := h.2.2.2.2
theorem QE.held {wz W : World} {g b O : Nat} {c3 nm v1 v5 : Value} {p1 p2 p3 p4 : Prop} (h : p1 ∧ p2 ∧ p3 ∧ p4 ∧ QE wz g c3 b O nm v1 v5 W) : Below wz.heap.size wz W := h.2.2.2.2.below
set_option maxRecDepth 100000 in
set_option maxHeartbeats 8000000 in
theorem light_any (S : SchT) (c0 c1 c2 : Value) (w : World) (B : Nat) (hB : B ≤ w.heap.size) (hS : TS w (fun b => b < B) (encSch S) [c0, c1, c2]) :
    Calls Tryz.prog 22 #[.agg #[c0, c1, c2]] w (SomeB w) := by
  obtain ⟨A, k, e, hl, hR⟩ := sch_cells hS
  injection e with e0 e
  injection e with e1 e
  injection e with e2 e
  subst e0 e1 e2
  obtain ⟨l, el⟩ : ∃ l, S.defs = l := ⟨_, rfl⟩
  have B0 := Lib.hid (dbelow_new w (.cells #[.slice A S.defs.length k, .string S.query, .string S.mutation] 24))
  have X0 := Lib.hid (heap_alloc_new w (.cells #[.slice A S.defs.length k, .string S.query, .string S.mutation] 24))
  rw [el] at hl hR B0 X0 ⊢
  have HB0 := Lib.hid hB
  have HR := Lib.hid hR
  clear hB hS hR e el
  go_enter Tryz.func22, Tryz.ntmps22
  go_wp2_with fail
  go_loopg [3, 4] l.length (fun g t i wx => ∃ q : Nat, q + g = l.length ∧ i = .int .i64 q ∧ (∃ k : Int, t = .int .i64 k) ∧ Aside (wx.heap[w.heap.size]? = some (.cells #[.slice A l.length k, .string S.query, .string S.mutation] 24 (0, 0))) ∧ Below w.heap.size w wx)
  case atStart => exact ⟨0, by omega, rfl, ⟨0, rfl⟩, Blk.Aside.intro X0.out, B0.out⟩
  case round =>
    obtain ⟨q, hq, rfl, ⟨kn, rfl⟩, HX, hb⟩ := hrel
    have HBB := Lib.hid hb
    obtain ⟨x0, x1, x2⟩ := three_cells HX.out
    have hltb : w.heap.size < wr.heap.size := (Array.getElem?_eq_some_iff.1 HX.out).1
    clear hb
    cases gk with
    | zero =>
      obtain rfl : q = l.length := by omega
      go_wp2_with fail
      go_ret
      exact ⟨_, rfl, HBB.out⟩
    | succ gg =>
      have hqn : q < l.length := by omega
      have hqn' : (q : Int) < (l.length : Int) := by omega
      obtain ⟨d, hd⟩ : ∃ x, l[q]? = some x := ⟨_, List.getElem?_eq_getElem hqn⟩
      obtain ⟨b, p, d0, d1, d2, d3, d4, d5, rfl, hlt, ⟨g0, g1, g2, g3, g4, g5⟩, hT⟩ := defn_at (RowT.below (HBB.out.mono HB0.out) HR.out) hd
      obtain ⟨Af, kf, Ax, kx, Ap, kp, Am, km, e, _, ⟨lf, hf⟩, ⟨lx, hx⟩, ⟨lp, hp⟩, lm, hm⟩ := defn_cells hT
      simp only [List.cons.injEq, and_true] at e
      obtain ⟨rfl, rfl, rfl, rfl, rfl, rfl⟩ := e
      have hlt' : b < wr.heap.size := Nat.lt_of_lt_of_le hlt (Nat.le_trans HB0.out HBB.out.size)
      have hBr := Nat.le_trans HB0.out HBB.out.size
      clear hT hd hlt
      go_upto_region 6 with fail
      clear g0 g1 g2 g3 g4 g5 x0 x1 x2
      have hc := heap_alloc_new wr (.cells #[.int .i64 d.kind, .string d.name, .slice Af d.faces.length kf, .slice Ax d.fields.length kx, .slice Ap d.parts.length kp, .slice Am d.params.length km] 65)
      have hbz := dbelow_new wr (.cells #[.int .i64 d.kind, .string d.name, .slice Af d.faces.length kf, .slice Ax d.fields.length kx, .slice Ap d.parts.length kp, .slice Am d.params.length km] 65)
      have hgz : wr.heap.size < (wr.alloc (.cells #[.int .i64 d.kind, .string d.name, .slice Af d.faces.length kf, .slice Ax d.fields.length kx, .slice Ap d.parts.length kp, .slice Am d.params.length km] 65)).heap.size := by simp
      generalize wr.alloc (.cells #[.int .i64 d.kind, .string d.name, .slice Af d.faces.length kf, .slice Ax d.fields.length kx, .slice Ap d.parts.length kp, .slice Am d.params.length km] 65) = wz at hc hbz hgz ⊢
      have HXZ := Lib.hid ((hbz.block _ hltb).trans HX.out)
      have HBZ := Lib.hid (HBB.out.trans (hbz.mono HBB.out.size))
      have HLZ := Lib.hid (Nat.lt_of_lt_of_le hltb hbz.size)
      have hBz := Nat.le_trans hBr hbz.size
      have t1 : TxtOK wz B Af d.faces.length := ⟨lf, _, (str_row hf).below (hbz.mono hBr)⟩
      have t2 : TxtOK wz B Ap d.parts.length := ⟨lp, _, (str_row hp).below (hbz.mono hBr)⟩
      have LP := fun (wx : World) (h : Below wz.heap.size wz wx) => Lib.hid (lparams_any d.params Am km wx B (Nat.le_trans hBz h.size) lm (RowT.below (h.mono hBz) (RowT.below (hbz.mono hBr) hm)))
      have HFX := Lib.hid (RowT.below (hbz.mono hBr) hx)
      generalize wr.heap.size = gq at hc hgz ⊢
      have HC := Lib.hid hc
      obtain ⟨⟨y0, y1, y2, y3, y4, y5⟩, _⟩ := six_cells hc
      have hE : QD wz gq (.string d.name) (.slice Af d.faces.length kf) (.slice Ap d.parts.length kp) (.slice Am d.params.length km) wz := ⟨y1, y2, y4, y5, Below.refl _ _⟩
      have HGZ := Lib.hid hgz
      have HBz := Lib.hid hBz
      clear hc hbz hm hf hp hx lf lp lm y0 y3 hgz hBz
      go_region_held3 (fun w' => w'.cell? ⟨gq, 1, none⟩ = some (.string d.name) ∧ w'.cell? ⟨gq, 2, none⟩ = some (.slice Af d.faces.length kf) ∧ w'.cell? ⟨gq, 4, none⟩ = some (.slice Ap d.parts.length kp) ∧ w'.cell? ⟨gq, 5, none⟩ = some (.slice Am d.params.length km) ∧ QD wz gq (.string d.name) (.slice Af d.faces.length kf) (.slice Ap d.parts.length kp) (.slice Am d.params.length km) w')
        (first
          | exact QD.written (hE.next HGZ.out (Below.drew (Below.refl _ _)))
          | exact QD.written ((hE.next HGZ.out (Below.drew (Below.refl _ _))).next HGZ.out (by assumption))
          | exact QD.written (hE.next HGZ.out (by assumption))
          | exact QD.written (QD.next (QD.last (by assumption)) HGZ.out (by assumption))
          | go_keep)
        ((first
          | (go_at_call 37; refine (lt_call (by assumption) HBz.out (by first | exact Below.drew (Below.refl _ _) | exact QD.held (by assumption))).mono ?_; rintro e w' ⟨kk, rfl, hb⟩)
          | (go_at_call 38; refine (LP _ (by first | exact Below.drew (Below.refl _ _) | exact QD.held (by assumption))).out.mono ?_; rintro e w' ⟨kk, rfl, hb⟩)))
      all_goals
        have HK := QD.last (by assumption)
        have HW := Lib.hid HK.below
        clear HK hE t1 t2 LP y1 y2 y4 y5
        have y3 := (HW.out.cell (p := ⟨gq, 3, none⟩) HGZ.out).trans (six_cells HC.out).1.2.2.2.1
        go_wp2_with fail
        clear y3
        go_loopg [3, 6] d.fields.length (fun g2 t i wx => ∃ j : Nat, j + g2 = d.fields.length ∧ i = .int .i64 j ∧ (∃ k : Int, t = .int .i64 k) ∧ Below wz.heap.size wz wx)
        case atStart => exact ⟨0, by omega, rfl, ⟨_, rfl⟩, HW.out⟩
        case round =>
          obtain ⟨j, hj, rfl, ⟨kk, rfl⟩, hb⟩ := hrel
          have HBC := Lib.hid hb
          have y3 := (hb.cell (p := ⟨gq, 3, none⟩) HGZ.out).trans (six_cells HC.out).1.2.2.2.1
          clear hb
          cases gk with
          | zero =>
            obtain rfl : j = d.fields.length := by omega
            go_wp2_with fail
            go_roundg gg
            case measure => omega
            case rel => exact ⟨q + 1, by omega, by go_num, ⟨_, rfl⟩, Blk.Aside.intro ((HBC.out.block _ HLZ.out).trans HXZ.out), HBZ.out.trans (HBC.out.mono HBZ.out.size)⟩
          | succ g2 =>
            have hjn : j < d.fields.length := by omega
            have hjn' : (j : Int) < (d.fields.length : Int) := by omega
            obtain ⟨x, hx⟩ : ∃ x, d.fields[j]? = some x := ⟨_, List.getElem?_eq_getElem hjn⟩
            obtain ⟨b2, p2, e0, e1, e2, e3, e4, e5, rfl, hlt2, ⟨f0, f1, f2, f3, f4, f5⟩, hT2⟩ := field_at (RowT.below (HBC.out.mono HBz.out) HFX.out) hx
            obtain ⟨Bp, cp, Bd, cd, e, _, ⟨l1, h1⟩, l5, h5⟩ := fld_cells hT2
            simp only [List.cons.injEq, and_true] at e
            obtain ⟨rfl, rfl, rfl, rfl, rfl, rfl⟩ := e
            have hBk := Nat.le_trans HBz.out HBC.out.size
            have HB2 : Hid (b2 < wr.heap.size) := Lib.hid (Nat.lt_of_lt_of_le hlt2 hBk)
            have HG2 : Hid (gq < wr.heap.size) := Lib.hid (Nat.lt_of_lt_of_le HGZ.out HBC.out.size)
            have LP := fun (wx : World) (h : Below wr.heap.size wr wx) => Lib.hid (lparams_any x.params Bp cp wx B (Nat.le_trans hBk h.size) l1 (RowT.below (h.mono hBk) h1))
            have LD := fun (wx : World) (h : Below wr.heap.size wr wx) => Lib.hid (ldirs_any x.dirs Bd cd wx B (Nat.le_trans hBk h.size) l5 (RowT.below (h.mono hBk) h5))
            have hE : QE wr gq (.slice (some ⟨b2, p2, none⟩) d.fields.length kx) b2 (p2 + j * 6) (.string x.name) (.slice Bp x.params.length cp) (.slice Bd x.dirs.length cd) wr := ⟨y3, f0, f1, f5, Below.refl _ _⟩
            clear hT2 h1 h5 l1 l5 f2 f3 f4 hx hlt2
            go_wp2_with fail
            go_region_held3 (fun w' => w'.cell? ⟨gq, 3, none⟩ = some (.slice (some ⟨b2, p2, none⟩) d.fields.length kx) ∧ w'.cell? ⟨b2, p2 + j * 6, none⟩ = some (.string x.name) ∧ w'.cell? ⟨b2, p2 + j * 6 + 1, none⟩ = some (.slice Bp x.params.length cp) ∧ w'.cell? ⟨b2, p2 + j * 6 + 5, none⟩ = some (.slice Bd x.dirs.length cd) ∧ QE wr gq (.slice (some ⟨b2, p2, none⟩) d.fields.length kx) b2 (p2 + j * 6) (.string x.name) (.slice Bp x.params.length cp) (.slice Bd x.dirs.length cd) w')
              (first
                | exact QE.written (hE.next HG2.out HB2.out (Below.drew (Below.refl _ _)))
                | exact QE.written ((hE.next HG2.out HB2.out (Below.drew (Below.refl _ _))).next HG2.out HB2.out (by assumption))
                | exact QE.written (hE.next HG2.out HB2.out (by assumption))
                | exact QE.written (QE.next (QE.last (by assumption)) HG2.out HB2.out (by assumption))
                | go_keep)
              ((first
                | (go_at_call 39; refine (LD _ (by first | exact Below.drew (Below.refl _ _) | exact QE.held (by assumption))).out.mono ?_; rintro e w' ⟨kk, rfl, hb⟩)
                | (go_at_call 38; refine (LP _ (by first | exact Below.drew (Below.refl _ _) | exact QE.held (by assumption))).out.mono ?_; rintro e w' ⟨kk, rfl, hb⟩)))
            all_goals
              have HK := QE.last (by assumption)
              have HW := Lib.hid (HBC.out.trans (HK.below.mono HBC.out.size))
              clear HK hE LP LD y3 f0 f1 f5
              go_wp2_with fail
              go_roundg g2
              case measure => omega
              case rel => exact ⟨j + 1, by omega, by go_num, ⟨_, rfl⟩, HW.out⟩
end Go.Proofs.YtcfdfgbobnocnaaGreatDoor
