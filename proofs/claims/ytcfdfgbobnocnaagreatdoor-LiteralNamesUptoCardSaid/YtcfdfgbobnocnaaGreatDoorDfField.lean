/- defs.Field. -/
import Derived.Test.YtcfdfgbobnocnaaGreatDoorDfFind
import Derived.Test.YtcfdfgbobnocnaaGreatDoorVSize
import Derived.Test.YtcfdfgbobnocnaaGreatDoorLtM
namespace Go.Proofs.YtcfdfgbobnocnaaGreatDoor
open Go.RowKit

/-- Some number. -/
def SomeI (w : World) (e : Ending) (w' : World) : Prop := ∃ k : Int, e = .returned (.int .i64 k) ∧ Below w.heap.size w w'
/-- Some answer. -/
def SomeB (w : World) (e : Ending) (w' : World) : Prop := ∃ b : Bool, e = .returned (.bool b) ∧ Below w.heap.size w w'
set_option maxRecDepth 100000 in
set_option maxHeartbeats 4000000 in
theorem ltexts_any (A : Option Addr) (n c : Nat) (xs : List ByteArray) (w : World) (hn : n ≤ 9223372036854775807) (ha : Blk.StrsAt w w.heap.size A n xs) :
    Calls Tryz.prog 37 #[.slice A n c] w (SomeI w) := by
  have HA := Lib.hid ha
  clear ha
  go_enter Tryz.func37, Tryz.ntmps37
  go_wp2_with fail
  go_loopg [3, 4] n (fun g t i wx => ∃ q : Nat, q + g = n ∧ i = .int .i64 q ∧ (∃ k : Int, t = .int .i64 k) ∧ Below w.heap.size w wx)
  case atStart => exact ⟨0, by omega, rfl, ⟨0, rfl⟩, Below.refl _ _⟩
  case round =>
    obtain ⟨q, hq, rfl, ⟨k, rfl⟩, hb⟩ := hrel
    have HBB := Lib.hid hb
    clear hb
    cases gk with
    | zero =>
      obtain rfl : q = n := by omega
      go_wp2_with fail
      go_ret
      exact ⟨_, rfl, HBB.out⟩
    | succ g =>
      have hlt : q < n := by omega
      have hlt' : (q : Int) < (n : Int) := by omega
      obtain ⟨x, hx⟩ : ∃ x, xs[q]? = some x := ⟨_, List.getElem?_eq_getElem (by rw [HA.out.1]; omega)⟩
      obtain ⟨b1, o1, rfl, hl1, c1⟩ := HA.out.2 q x hx
      have c1 := (HBB.out.cell (p := ⟨b1, o1 + q, none⟩) hl1).trans c1
      clear hx
      go_wp2_with fail
      first
        | (go_roundg g
           case measure => omega
           case rel => exact ⟨q + 1, by omega, by go_num, ⟨_, rfl⟩, HBB.out⟩)
        | (go_quiet (fail)
           go_wp2_with fail
           go_roundg g
           case measure => omega
           case rel => exact ⟨q + 1, by omega, by go_num, ⟨_, rfl⟩, Blk.below_draws HBB.out _⟩)
theorem par_at {w : World} {B : Nat} {l : List VarT} {A : Option Addr} {q : Nat} {x : VarT} (h : RowT w (fun b => b < B) (rowOf encVar l) A) (hx : l[q]? = some x) :
    ∃ b p d0 d1 d2 d3 d4, A = some ⟨b, p, none⟩ ∧ b < B ∧ w.cell? ⟨b, p + q * 10, none⟩ = some (.string x.name) ∧ Five w b (p + q * 10 + 5) d0 d1 d2 d3 d4 ∧ VAt w B x.v d0 d1 d2 d3 d4 := by
  obtain ⟨b, p, cs, e, hb, hc, h1⟩ := rowOf_at 10 (fun x => by unfold encVar; simp only [TrS.len, encV_len]) h hx
  simp only [encVar, TS, TP] at h1
  obtain ⟨c0, _, rfl, ⟨rfl, _⟩, c1, _, rfl, ⟨rfl, _⟩, c2, _, rfl, ⟨rfl, _⟩, c3, _, rfl, ⟨rfl, _⟩, c4, ys, rfl, ⟨rfl, _⟩, h2⟩ := h1
  obtain ⟨d0, d1, d2, d3, d4, rfl, hv⟩ := ts_vp _ _ h2
  exact ⟨b, p, d0, d1, d2, d3, d4, e, hb, hc 0 _ rfl, ⟨hc 5 _ rfl, hc 6 _ rfl, hc 7 _ rfl, hc 8 _ rfl, hc 9 _ rfl⟩, VP.at (fun _ h => h) _ _ _ _ _ _ hv⟩
/-- The cells that a round reads, and that nothing has turned. -/
def K6 (w : World) (b O : Nat) (nm d0 d1 d2 d3 d4 : Value) (W : World) : Prop := W.cell? ⟨b, O, none⟩ = some nm ∧ Five W b (O + 5) d0 d1 d2 d3 d4 ∧ Below w.heap.size w W
theorem K6.next {w W W' : World} {b O : Nat} {nm d0 d1 d2 d3 d4 : Value} (h : K6 w b O nm d0 d1 d2 d3 d4 W) (hl : b < w.heap.size) (hb : Below W.heap.size W W') : K6 w b O nm d0 d1 d2 d3 d4 W' := by
  obtain ⟨hn, hF, hK⟩ := h
  have g := Nat.lt_of_lt_of_le hl hK.size
  exact ⟨(hb.cell (p := ⟨b, _, none⟩) g).trans hn, hF.below hb g, hK.trans (hb.mono hK.size)⟩
theorem K6.written {w W : World} {b O : Nat} {nm d0 d1 d2 d3 d4 : Value} (h : K6 w b O nm d0 d1 d2 d3 d4 W) : W.cell? ⟨b, O, none⟩ = some nm ∧ W.cell? ⟨b, O + 5, none⟩ = some d0 ∧ W.cell? ⟨b, O + 5 + 1, none⟩ = some d1 ∧ W.cell? ⟨b, O + 5 + 2, none⟩ = some d2 ∧ W.cell? ⟨b, O + 5 + 3, none⟩ = some d3 ∧ W.cell? ⟨b, O + 5 + 4, none⟩ = some d4 ∧ K6 w b O nm d0 d1 d2 d3 d4 W :=
  ⟨h.1, h.2.1.1, h.2.1.2.1, h.2.1.2.2.1, h.2.1.2.2.2.1, h.2.1.2.2.2.2, h⟩
theorem K6.below {w W : World} {b O : Nat} {nm d0 d1 d2 d3 d4 : Value} (h : K6 w b O nm d0 d1 d2 d3 d4 W) : Below w.heap.size w W := h.2.2
set_option maxRecDepth 100000 in
set_option maxHeartbeats 4000000 in
theorem lparams_any (l : List VarT) (A : Option Addr) (c : Nat) (w : World) (B : Nat) (hB : B ≤ w.heap.size) (hn : l.length ≤ 9223372036854775807) (hR : RowT w (fun b => b < B) (rowOf encVar l) A) :
    Calls Tryz.prog 38 #[.slice A l.length c] w (SomeI w) := by
  have HR := Lib.hid hR
  have HB0 := Lib.hid hB
  clear hR hB
  go_enter Tryz.func38, Tryz.ntmps38
  go_wp2_with fail
  go_loopg [3, 4] l.length (fun g t i wx => ∃ q : Nat, q + g = l.length ∧ i = .int .i64 q ∧ (∃ k : Int, t = .int .i64 k) ∧ Below w.heap.size w wx)
  case atStart => exact ⟨0, by omega, rfl, ⟨0, rfl⟩, Below.refl _ _⟩
  case round =>
    obtain ⟨q, hq, rfl, ⟨k, rfl⟩, hb⟩ := hrel
    have HBB := Lib.hid hb
    clear hb
    cases gk with
    | zero =>
      obtain rfl : q = l.length := by omega
      go_wp2_with fail
      go_ret
      exact ⟨_, rfl, HBB.out⟩
    | succ g =>
      have hqn : q < l.length := by omega
      have hqn' : (q : Int) < (l.length : Int) := by omega
      obtain ⟨x, hx⟩ : ∃ x, l[q]? = some x := ⟨_, List.getElem?_eq_getElem hqn⟩
      obtain ⟨b, p, d0, d1, d2, d3, d4, rfl, hlt, hnm, hF, hV⟩ := par_at (RowT.below (HBB.out.mono HB0.out) HR.out) hx
      have HBX := Nat.le_trans HB0.out HBB.out.size
      have HBW : Hid (b < wr.heap.size) := Lib.hid (Nat.lt_of_lt_of_le hlt HBX)
      have hE : K6 wr b (p + q * 10) (.string x.name) d0 d1 d2 d3 d4 wr := ⟨hnm, hF, Below.refl _ _⟩
      obtain ⟨f0, f1, f2, f3, f4, f5, _⟩ := hE.written
      have C := fun (wx : World) (hx : Below wr.heap.size wr wx) => Lib.hid (vsize_any _ x.v (Nat.le_refl _) d0 d1 d2 d3 d4 wx B (Nat.le_trans HBX hx.size) (VAt.below (hx.mono HBX) _ _ _ _ _ _ hV))
      clear hV hF hnm hx hlt HBX
      go_wp2_with fail
      go_region_held3 (fun w' => w'.cell? ⟨b, p + q * 10, none⟩ = some (.string x.name) ∧ w'.cell? ⟨b, p + q * 10 + 5, none⟩ = some d0 ∧ w'.cell? ⟨b, p + q * 10 + 5 + 1, none⟩ = some d1 ∧ w'.cell? ⟨b, p + q * 10 + 5 + 2, none⟩ = some d2 ∧ w'.cell? ⟨b, p + q * 10 + 5 + 3, none⟩ = some d3 ∧ w'.cell? ⟨b, p + q * 10 + 5 + 4, none⟩ = some d4 ∧ K6 wr b (p + q * 10) (.string x.name) d0 d1 d2 d3 d4 w')
        (first
          | exact K6.written (hE.next HBW.out (Below.drew (Below.refl _ _)))
          | exact K6.written ((hE.next HBW.out (Below.drew (Below.refl _ _))).next HBW.out (by assumption))
          | exact K6.written (hE.next HBW.out (by assumption))
          | exact K6.written (K6.next (by assumption) HBW.out (by assumption))
          | go_keep)
        ((first | (go_at_call 23; refine (C _ (by first | exact Below.drew (Below.refl _ _) | exact K6.below (by assumption))).out.mono ?_; rintro e w' ⟨rfl, hb⟩)))
      all_goals
        have HK : K6 wr b (p + q * 10) (.string x.name) d0 d1 d2 d3 d4 w' := And.right (And.right (And.right (And.right (And.right (And.right (by assumption))))))
        have HKB := Lib.hid (HBB.out.trans (HK.2.2.mono HBB.out.size))
        clear HK hE C f0 f1 f2 f3 f4 f5
        go_wp2_with fail
        go_roundg g
        case measure => omega
        case rel => exact ⟨q + 1, by omega, by go_num, ⟨_, rfl⟩, HKB.out⟩
/-- The same, of two cells. -/
def K2 (w : World) (b O : Nat) (nm v : Value) (W : World) : Prop := W.cell? ⟨b, O, none⟩ = some nm ∧ W.cell? ⟨b, O + 1, none⟩ = some v ∧ Below w.heap.size w W
theorem K2.next {w W W' : World} {b O : Nat} {nm v : Value} (h : K2 w b O nm v W) (hl : b < w.heap.size) (hb : Below W.heap.size W W') : K2 w b O nm v W' := by
  obtain ⟨hn, hF, hK⟩ := h
  have g := Nat.lt_of_lt_of_le hl hK.size
  exact ⟨(hb.cell (p := ⟨b, _, none⟩) g).trans hn, (hb.cell (p := ⟨b, _, none⟩) g).trans hF, hK.trans (hb.mono hK.size)⟩
theorem K2.written {w W : World} {b O : Nat} {nm v : Value} (h : K2 w b O nm v W) : W.cell? ⟨b, O, none⟩ = some nm ∧ W.cell? ⟨b, O + 1, none⟩ = some v ∧ K2 w b O nm v W := ⟨h.1, h.2.1, h⟩
theorem K2.below {w W : World} {b O : Nat} {nm v : Value} (h : K2 w b O nm v W) : Below w.heap.size w W := h.2.2
set_option maxRecDepth 100000 in
set_option maxHeartbeats 4000000 in
theorem ldirs_any (l : List DirT) (A : Option Addr) (c : Nat) (w : World) (B : Nat) (hB : B ≤ w.heap.size) (hn : l.length ≤ 9223372036854775807) (hR : RowT w (fun b => b < B) (rowOf encD l) A) :
    Calls Tryz.prog 39 #[.slice A l.length c] w (SomeI w) := by
  have HR := Lib.hid hR
  have HB0 := Lib.hid hB
  clear hR hB
  go_enter Tryz.func39, Tryz.ntmps39
  go_wp2_with fail
  go_loopg [3, 4] l.length (fun g t i wx => ∃ q : Nat, q + g = l.length ∧ i = .int .i64 q ∧ (∃ k : Int, t = .int .i64 k) ∧ Below w.heap.size w wx)
  case atStart => exact ⟨0, by omega, rfl, ⟨0, rfl⟩, Below.refl _ _⟩
  case round =>
    obtain ⟨q, hq, rfl, ⟨k, rfl⟩, hb⟩ := hrel
    have HBB := Lib.hid hb
    clear hb
    cases gk with
    | zero =>
      obtain rfl : q = l.length := by omega
      go_wp2_with fail
      go_ret
      exact ⟨_, rfl, HBB.out⟩
    | succ g =>
      have hqn : q < l.length := by omega
      have hqn' : (q : Int) < (l.length : Int) := by omega
      obtain ⟨⟨nm, m⟩, hx⟩ : ∃ x, l[q]? = some x := ⟨_, List.getElem?_eq_getElem hqn⟩
      obtain ⟨b, p, A2, k2, rfl, hlt, hnm, hF, hml, hV⟩ := dir_at (RowT.below (HBB.out.mono HB0.out) HR.out) hx
      have HBX := Nat.le_trans HB0.out HBB.out.size
      have HBW : Hid (b < wr.heap.size) := Lib.hid (Nat.lt_of_lt_of_le hlt HBX)
      have hE : K2 wr b (p + q * 2) (.string nm) (.slice A2 m.len k2) wr := ⟨hnm, hF, Below.refl _ _⟩
      obtain ⟨f0, f1, _⟩ := hE.written
      have C := fun (wx : World) (hx : Below wr.heap.size wr wx) => Lib.hid (vsize_any _ (.mk 0 0 ⟨#[]⟩ .nil m) (Nat.le_refl _) (.int .i64 0) (.int .i64 0) (.string ⟨#[]⟩) (.slice none 0 0) (.slice A2 m.len k2) wx B (Nat.le_trans HBX hx.size) (by
        unfold VAt
        exact ⟨rfl, rfl, rfl, by decide, ⟨none, 0, rfl, by simp [VL.len], by unfold LAt; trivial⟩, A2, k2, rfl, hml, MAt.below (hx.mono HBX) _ _ _ hV⟩))
      clear hV hF hnm hx hlt HBX hml
      go_wp2_with fail
      go_region_held3 (fun w' => w'.cell? ⟨b, p + q * 2, none⟩ = some (.string nm) ∧ w'.cell? ⟨b, p + q * 2 + 1, none⟩ = some (.slice A2 m.len k2) ∧ K2 wr b (p + q * 2) (.string nm) (.slice A2 m.len k2) w')
        (first
          | exact K2.written (hE.next HBW.out (Below.drew (Below.refl _ _)))
          | exact K2.written ((hE.next HBW.out (Below.drew (Below.refl _ _))).next HBW.out (by assumption))
          | exact K2.written (hE.next HBW.out (by assumption))
          | exact K2.written (K2.next (by assumption) HBW.out (by assumption))
          | go_keep)
        ((first | (go_at_call 23; refine (C _ (by first | exact Below.drew (Below.refl _ _) | exact K2.below (by assumption))).out.mono ?_; rintro e w' ⟨rfl, hb⟩)))
      all_goals
        have HK : K2 wr b (p + q * 2) (.string nm) (.slice A2 m.len k2) w' := And.right (And.right (by assumption))
        have HKB := Lib.hid (HBB.out.trans (HK.2.2.mono HBB.out.size))
        clear HK hE C f0 f1
        go_wp2_with fail
        go_roundg g
        case measure => omega
        case rel => exact ⟨q + 1, by omega, by go_num, ⟨_, rfl⟩, HKB.out⟩
end Go.Proofs.YtcfdfgbobnocnaaGreatDoor
namespace Go.Proofs.YtcfdfgbobnocnaaGreatDoor
open Go.RowKit

theorem field_at {w : World} {P : Nat → Prop} {l : List FieldT} {A : Option Addr} {q : Nat} {d : FieldT} (h : RowT w P (rowOf encField l) A) (hx : l[q]? = some d) :
    ∃ b p c0 c1 c2 c3 c4 c5, A = some ⟨b, p, none⟩ ∧ P b ∧ (w.cell? ⟨b, p + q * 6, none⟩ = some c0 ∧ w.cell? ⟨b, p + q * 6 + 1, none⟩ = some c1 ∧ w.cell? ⟨b, p + q * 6 + 2, none⟩ = some c2 ∧ w.cell? ⟨b, p + q * 6 + 3, none⟩ = some c3 ∧ w.cell? ⟨b, p + q * 6 + 4, none⟩ = some c4 ∧ w.cell? ⟨b, p + q * 6 + 5, none⟩ = some c5) ∧ TS w P (encField d) [c0, c1, c2, c3, c4, c5] := by
  obtain ⟨b, p, cs, e, hb, hc, h1⟩ := rowOf_at 6 (fun _ => rfl) h hx
  obtain ⟨Ap, kp, Ad, kd, rfl, _⟩ := fld_cells h1
  exact ⟨b, p, _, _, _, _, _, _, e, hb, ⟨hc 0 _ rfl, hc 1 _ rfl, hc 2 _ rfl, hc 3 _ rfl, hc 4 _ rfl, hc 5 _ rfl⟩, h1⟩
end Go.Proofs.YtcfdfgbobnocnaaGreatDoor
