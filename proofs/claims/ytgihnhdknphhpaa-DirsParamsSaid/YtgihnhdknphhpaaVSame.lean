/- The walks of seineref1.Same and seineref1.Members: by induction on the tree. -/
import Derived.Test.YtgihnhdknphhpaaVSize
import Derived.Deep.QuietTactic
import Derived.BigQuiet
import Derived.Deep.Draws
namespace Go.Proofs.Ytgihnhdknphhpaa
open Go.RowKit

theorem vaside {p : Prop} (h : p) : Aside p := h
theorem vbelow_draws {B : Nat} {a w : World} (h : Below B a w) (n : Nat) : Below B a (w.drewN n) := ⟨h.os, h.tape, h.output, h.size, h.block⟩
theorem VL.ext : ∀ {l l' : VL}, l.len = l'.len → (∀ j, j < l.len → l.get j = l'.get j) → l = l'
  | .nil, .nil, _, _ => rfl
  | .nil, .cons _ _, h, _ => by simp [VL.len] at h
  | .cons _ _, .nil, h, _ => by simp [VL.len] at h
  | .cons u t, .cons u' t', h, hg => by
    have h0 : u = u' := by simpa [VL.get] using hg 0 (by rw [VL.len]; omega)
    have ht : t = t' := VL.ext (by simp only [VL.len] at h; omega) (fun j hj => by simpa [VL.get] using hg (j + 1) (by rw [VL.len]; omega))
    rw [h0, ht]
theorem VM.ext : ∀ {l l' : VM}, l.len = l'.len → (∀ j, j < l.len → l.get j = l'.get j) → l = l'
  | .nil, .nil, _, _ => rfl
  | .nil, .cons _ _ _, h, _ => by simp [VM.len] at h
  | .cons _ _ _, .nil, h, _ => by simp [VM.len] at h
  | .cons x u t, .cons x' u' t', h, hg => by
    have h0 : x = x' ∧ u = u' := by simpa [VM.get] using hg 0 (by rw [VM.len]; omega)
    have ht : t = t' := VM.ext (by simp only [VM.len] at h; omega) (fun j hj => by simpa [VM.get] using hg (j + 1) (by rw [VM.len]; omega))
    rw [h0.1, h0.2, ht]
/-- The first q agree. -/
def AgreeL (l l' : VL) (q : Nat) : Prop := ∀ j, j < q → l.get j = l'.get j
def AgreeM (l l' : VM) (q : Nat) : Prop := ∀ j, j < q → l.get j = l'.get j
theorem AgreeL.next {l l' : VL} {q : Nat} {v : VT} (h : AgreeL l l' q) (h1 : l.get q = some v) (h2 : l'.get q = some v) : AgreeL l l' (q + 1) := fun j hj => by
  rcases Nat.lt_or_ge j q with h' | h'
  · exact h j h'
  · obtain rfl : j = q := by omega
    rw [h1, h2]
theorem AgreeM.next {l l' : VM} {q : Nat} {v : ByteArray × VT} (h : AgreeM l l' q) (h1 : l.get q = some v) (h2 : l'.get q = some v) : AgreeM l l' (q + 1) := fun j hj => by
  rcases Nat.lt_or_ge j q with h' | h'
  · exact h j h'
  · obtain rfl : j = q := by omega
    rw [h1, h2]

def SameC (u : VT) : Prop := ∀ (v : VT) (c0 c1 c2 c3 c4 d0 d1 d2 d3 d4 : Value) (w : World) (B : Nat), B ≤ w.heap.size → VAt w B u c0 c1 c2 c3 c4 → VAt w B v d0 d1 d2 d3 d4 →
  Calls Try.prog 11 #[.agg #[c0, c1, c2, c3, c4], .agg #[d0, d1, d2, d3, d4]] w fun e w' => (∃ b, e = .returned (.bool b) ∧ (b = true ↔ u = v)) ∧ Below w.heap.size w w'
def MembC (m : VM) : Prop := ∀ (m' : VM) (A A' : Option Addr) (c c' : Nat) (w : World) (B : Nat), B ≤ w.heap.size → m.len ≤ 9223372036854775807 → m'.len ≤ 9223372036854775807 → MAt w B m A 0 → MAt w B m' A' 0 →
  Calls Try.prog 17 #[.slice A m.len c, .slice A' m'.len c'] w fun e w' => (∃ b, e = .returned (.bool b) ∧ (b = true ↔ m = m')) ∧ Below w.heap.size w w'
theorem vsaid {p q : Prop} {b : Bool} (h : b = true ↔ p) (hq : q) : (∃ b', Ending.returned (.bool b) = .returned (.bool b') ∧ (b' = true ↔ p)) ∧ q := ⟨⟨b, rfl, h⟩, hq⟩
theorem yes_if {p : Prop} (h : p) : true = true ↔ p := ⟨fun _ => h, fun _ => rfl⟩
theorem not_if {p : Prop} (h : ¬ p) : false = true ↔ p := ⟨fun e => by simp at e, fun e => absurd e h⟩
theorem SameC.yes {u v : VT} (h : SameC u) (e : u = v) (c0 c1 c2 c3 c4 d0 d1 d2 d3 d4 : Value) (w : World) (B : Nat) (hB : B ≤ w.heap.size) (h1 : VAt w B u c0 c1 c2 c3 c4) (h2 : VAt w B v d0 d1 d2 d3 d4) :
    Calls Try.prog 11 #[.agg #[c0, c1, c2, c3, c4], .agg #[d0, d1, d2, d3, d4]] w fun e w' => e = .returned (.bool true) ∧ Below w.heap.size w w' := by
  refine (h v c0 c1 c2 c3 c4 d0 d1 d2 d3 d4 w B hB h1 h2).mono ?_
  rintro e' w' ⟨⟨b, rfl, hb⟩, hw⟩
  rw [hb.2 e]
  exact ⟨rfl, hw⟩
theorem SameC.no {u v : VT} (h : SameC u) (e : ¬ u = v) (c0 c1 c2 c3 c4 d0 d1 d2 d3 d4 : Value) (w : World) (B : Nat) (hB : B ≤ w.heap.size) (h1 : VAt w B u c0 c1 c2 c3 c4) (h2 : VAt w B v d0 d1 d2 d3 d4) :
    Calls Try.prog 11 #[.agg #[c0, c1, c2, c3, c4], .agg #[d0, d1, d2, d3, d4]] w fun e w' => e = .returned (.bool false) ∧ Below w.heap.size w w' := by
  refine (h v c0 c1 c2 c3 c4 d0 d1 d2 d3 d4 w B hB h1 h2).mono ?_
  rintro e' w' ⟨⟨b, rfl, hb⟩, hw⟩
  have : b = false := by cases b; rfl; exact absurd (hb.1 rfl) e
  rw [this]
  exact ⟨rfl, hw⟩
/-- Two members at hand. -/
def KE (w : World) (b O : Nat) (nm d0 d1 d2 d3 d4 : Value) (b' O' : Nat) (nm' f0 f1 f2 f3 f4 : Value) (W : World) : Prop :=
  W.cell? ⟨b, O, none⟩ = some nm ∧ Five W b (O + 1) d0 d1 d2 d3 d4 ∧ W.cell? ⟨b', O', none⟩ = some nm' ∧ Five W b' (O' + 1) f0 f1 f2 f3 f4 ∧ Below w.heap.size w W
theorem KE.next {w W W' : World} {b O : Nat} {nm d0 d1 d2 d3 d4 : Value} {b' O' : Nat} {nm' f0 f1 f2 f3 f4 : Value} (h : KE w b O nm d0 d1 d2 d3 d4 b' O' nm' f0 f1 f2 f3 f4 W) (hl : b < w.heap.size) (hl' : b' < w.heap.size) (hb : Below W.heap.size W W') : KE w b O nm d0 d1 d2 d3 d4 b' O' nm' f0 f1 f2 f3 f4 W' := by
  obtain ⟨h1, h2, h3, h4, hB⟩ := h
  have g := Nat.lt_of_lt_of_le hl hB.size
  have g' := Nat.lt_of_lt_of_le hl' hB.size
  exact ⟨(hb.cell (p := ⟨b, _, none⟩) g).trans h1, h2.below hb g, (hb.cell (p := ⟨b', _, none⟩) g').trans h3, h4.below hb g', hB.trans (hb.mono hB.size)⟩
theorem KE.written {w W : World} {b O : Nat} {nm d0 d1 d2 d3 d4 : Value} {b' O' : Nat} {nm' f0 f1 f2 f3 f4 : Value} (h : KE w b O nm d0 d1 d2 d3 d4 b' O' nm' f0 f1 f2 f3 f4 W) :
    W.cell? ⟨b, O, none⟩ = some nm ∧ W.cell? ⟨b, O + 1, none⟩ = some d0 ∧ W.cell? ⟨b, O + 1 + 1, none⟩ = some d1 ∧ W.cell? ⟨b, O + 1 + 2, none⟩ = some d2 ∧ W.cell? ⟨b, O + 1 + 3, none⟩ = some d3 ∧ W.cell? ⟨b, O + 1 + 4, none⟩ = some d4 ∧
    W.cell? ⟨b', O', none⟩ = some nm' ∧ W.cell? ⟨b', O' + 1, none⟩ = some f0 ∧ W.cell? ⟨b', O' + 1 + 1, none⟩ = some f1 ∧ W.cell? ⟨b', O' + 1 + 2, none⟩ = some f2 ∧ W.cell? ⟨b', O' + 1 + 3, none⟩ = some f3 ∧ W.cell? ⟨b', O' + 1 + 4, none⟩ = some f4 ∧
    KE w b O nm d0 d1 d2 d3 d4 b' O' nm' f0 f1 f2 f3 f4 W :=
  ⟨h.1, h.2.1.1, h.2.1.2.1, h.2.1.2.2.1, h.2.1.2.2.2.1, h.2.1.2.2.2.2, h.2.2.1, h.2.2.2.1.1, h.2.2.2.1.2.1, h.2.2.2.1.2.2.1, h.2.2.2.1.2.2.2.1, h.2.2.2.1.2.2.2.2, h⟩

set_option maxRecDepth 100000 in
set_option maxHeartbeats 4000000 in
theorem memb_any (N : Nat) (H : ∀ u, sizeV u ≤ N → SameC u) : ∀ m, sizeM m ≤ N → MembC m := by
  intro m hm m' A A' c c' w B hB hl hl' h1 h2
  have H1 := Lib.hid h1
  have H2 := Lib.hid h2
  have HS := Lib.hid H
  have HB0 := Lib.hid hB
  clear h1 h2 H hB
  by_cases hlen : m.len = m'.len
  · generalize hn : m.len = n at *
    have HN := Lib.hid hn
    have HN' := Lib.hid hlen
    subst hlen
    clear hn
    have e0 : ((m'.len : Int) != (m'.len : Int)) = false := by simp
    go_enter Try.func17, Try.ntmps17
    go_wp2_with fail
    go_loopg [5] m'.len (fun g i wx => ∃ q : Nat, q + g = m'.len ∧ i = .int .i64 q ∧ Below w.heap.size w wx ∧ Aside (AgreeM m m' q))
    case atStart => exact ⟨0, by omega, rfl, Below.refl _ _, vaside (fun j hj => by omega)⟩
    case round =>
      obtain ⟨q, hq, rfl, hb, HA⟩ := hrel
      have HBB := Lib.hid hb
      clear hb
      cases gk with
      | zero =>
        obtain rfl : q = m'.len := by omega
        have hE : Hid (m = m') := Lib.hid (VM.ext HN.out (by rw [HN.out]; exact HA.out))
        clear HA
        go_wp2_with fail
        go_ret
        exact vsaid (yes_if hE.out) HBB.out
      | succ g =>
        have hqn : q < m'.len := by omega
        have hqn' : (q : Int) < (m'.len : Int) := by omega
        obtain ⟨⟨nm, v⟩, hv⟩ := VM.get_lt (l := m) (j := q) (by rw [HN.out]; exact hqn)
        obtain ⟨⟨nm', v'⟩, hv'⟩ := VM.get_lt hqn
        have hvN := sizeM_get hv
        obtain ⟨b, o, d0, d1, d2, d3, d4, rfl, hblt, hnm, hns, hF, hV⟩ := MAt.at (MAt.below (HBB.out.mono HB0.out) _ _ _ H1.out) hv
        obtain ⟨b', o', f0, f1, f2, f3, f4, rfl, hblt', hnm', hns', hF', hV'⟩ := MAt.at (MAt.below (HBB.out.mono HB0.out) _ _ _ H2.out) hv'
        rw [Nat.zero_add] at hF hnm hF' hnm'
        have hE := Lib.hid hv
        have hE' := Lib.hid hv'
        clear hv hv'
        by_cases hnn : nm = nm'
        · subst hnn
          have e1 : (nm.toList != nm.toList) = false := by simp
          have e1' : (nm.toList == nm.toList) = true := by simp
          have HBW : Hid (b < w.heap.size) := Lib.hid (Nat.lt_of_lt_of_le hblt HB0.out)
          have HBW' : Hid (b' < w.heap.size) := Lib.hid (Nat.lt_of_lt_of_le hblt' HB0.out)
          have hE0 : KE w b (o + q * 6) (.string nm) d0 d1 d2 d3 d4 b' (o' + q * 6) (.string nm) f0 f1 f2 f3 f4 wr := ⟨hnm, hF, hnm', hF', HBB.out⟩
          obtain ⟨g0, g1, g2, g3, g4⟩ := hF
          obtain ⟨g5, g6, g7, g8, g9⟩ := hF'
          by_cases hvv : v = v'
          · subst hvv
            have C := fun (wx : World) (hx : Below wr.heap.size wr wx) => Lib.hid ((HS.out v (by omega)).yes rfl d0 d1 d2 d3 d4 f0 f1 f2 f3 f4 wx B (Nat.le_trans HB0.out (Nat.le_trans HBB.out.size hx.size)) (VAt.below (hx.mono (Nat.le_trans HB0.out HBB.out.size)) _ _ _ _ _ _ hV) (VAt.below (hx.mono (Nat.le_trans HB0.out HBB.out.size)) _ _ _ _ _ _ hV'))
            have hnx : Hid (AgreeM m m' (q + 1)) := Lib.hid (AgreeM.next HA.out hE.out hE'.out)
            clear hV hV' HA hvN hblt hblt'
            go_wp2_with fail
            go_region_held3 (fun w' => w'.cell? ⟨b, o + q * 6, none⟩ = some (.string nm) ∧ w'.cell? ⟨b, o + q * 6 + 1, none⟩ = some d0 ∧ w'.cell? ⟨b, o + q * 6 + 1 + 1, none⟩ = some d1 ∧ w'.cell? ⟨b, o + q * 6 + 1 + 2, none⟩ = some d2 ∧ w'.cell? ⟨b, o + q * 6 + 1 + 3, none⟩ = some d3 ∧ w'.cell? ⟨b, o + q * 6 + 1 + 4, none⟩ = some d4 ∧ w'.cell? ⟨b', o' + q * 6, none⟩ = some (.string nm) ∧ w'.cell? ⟨b', o' + q * 6 + 1, none⟩ = some f0 ∧ w'.cell? ⟨b', o' + q * 6 + 1 + 1, none⟩ = some f1 ∧ w'.cell? ⟨b', o' + q * 6 + 1 + 2, none⟩ = some f2 ∧ w'.cell? ⟨b', o' + q * 6 + 1 + 3, none⟩ = some f3 ∧ w'.cell? ⟨b', o' + q * 6 + 1 + 4, none⟩ = some f4 ∧ KE w b (o + q * 6) (.string nm) d0 d1 d2 d3 d4 b' (o' + q * 6) (.string nm) f0 f1 f2 f3 f4 w')
              (first
                | exact KE.written (KE.next hE0 HBW.out HBW'.out (Below.drew (Below.refl _ _)))
                | exact KE.written ((KE.next hE0 HBW.out HBW'.out (Below.drew (Below.refl _ _))).next HBW.out HBW'.out (by assumption))
                | exact KE.written (KE.next hE0 HBW.out HBW'.out (by assumption))
                | exact KE.written (KE.next (by assumption) HBW.out HBW'.out (by assumption))
                | go_keep)
              ((first | (go_at_call 11; refine (C _ (by first | exact Below.drew (Below.refl _ _) | exact Below.refl _ _ | assumption)).out.mono ?_; rintro e w' ⟨rfl, hb⟩)))
            all_goals
              have HKM : KE w b (o + q * 6) (.string nm) d0 d1 d2 d3 d4 b' (o' + q * 6) (.string nm) f0 f1 f2 f3 f4 w' := And.right (And.right (And.right (And.right (And.right (And.right (And.right (And.right (And.right (And.right (And.right (And.right (by assumption))))))))))))
              have HKB := Lib.hid HKM.2.2.2.2
              clear HKM hE0 C g0 g1 g2 g3 g4 g5 g6 g7 g8 g9
              go_wp2_with fail
              go_roundg g
              case measure => omega
              case rel => exact ⟨q + 1, by omega, by go_num, HKB.out, vaside hnx.out⟩
          · have C := fun (wx : World) (hx : Below wr.heap.size wr wx) => Lib.hid ((HS.out v (by omega)).no hvv d0 d1 d2 d3 d4 f0 f1 f2 f3 f4 wx B (Nat.le_trans HB0.out (Nat.le_trans HBB.out.size hx.size)) (VAt.below (hx.mono (Nat.le_trans HB0.out HBB.out.size)) _ _ _ _ _ _ hV) (VAt.below (hx.mono (Nat.le_trans HB0.out HBB.out.size)) _ _ _ _ _ _ hV'))
            have hno : Hid (¬ m = m') := Lib.hid (fun h => by
              subst h
              have := hE.out.symm.trans hE'.out
              simp only [Option.some.injEq, Prod.mk.injEq] at this
              exact hvv this.2)
            clear hV hV' HA hvN hblt hblt' hvv
            go_wp2_with fail
            go_region_held3 (fun w' => w'.cell? ⟨b, o + q * 6, none⟩ = some (.string nm) ∧ w'.cell? ⟨b, o + q * 6 + 1, none⟩ = some d0 ∧ w'.cell? ⟨b, o + q * 6 + 1 + 1, none⟩ = some d1 ∧ w'.cell? ⟨b, o + q * 6 + 1 + 2, none⟩ = some d2 ∧ w'.cell? ⟨b, o + q * 6 + 1 + 3, none⟩ = some d3 ∧ w'.cell? ⟨b, o + q * 6 + 1 + 4, none⟩ = some d4 ∧ w'.cell? ⟨b', o' + q * 6, none⟩ = some (.string nm) ∧ w'.cell? ⟨b', o' + q * 6 + 1, none⟩ = some f0 ∧ w'.cell? ⟨b', o' + q * 6 + 1 + 1, none⟩ = some f1 ∧ w'.cell? ⟨b', o' + q * 6 + 1 + 2, none⟩ = some f2 ∧ w'.cell? ⟨b', o' + q * 6 + 1 + 3, none⟩ = some f3 ∧ w'.cell? ⟨b', o' + q * 6 + 1 + 4, none⟩ = some f4 ∧ KE w b (o + q * 6) (.string nm) d0 d1 d2 d3 d4 b' (o' + q * 6) (.string nm) f0 f1 f2 f3 f4 w')
              (first
                | exact KE.written (KE.next hE0 HBW.out HBW'.out (Below.drew (Below.refl _ _)))
                | exact KE.written ((KE.next hE0 HBW.out HBW'.out (Below.drew (Below.refl _ _))).next HBW.out HBW'.out (by assumption))
                | exact KE.written (KE.next hE0 HBW.out HBW'.out (by assumption))
                | exact KE.written (KE.next (by assumption) HBW.out HBW'.out (by assumption))
                | go_keep)
              ((first | (go_at_call 11; refine (C _ (by first | exact Below.drew (Below.refl _ _) | exact Below.refl _ _ | assumption)).out.mono ?_; rintro e w' ⟨rfl, hb⟩)))
            all_goals
              have HKM : KE w b (o + q * 6) (.string nm) d0 d1 d2 d3 d4 b' (o' + q * 6) (.string nm) f0 f1 f2 f3 f4 w' := And.right (And.right (And.right (And.right (And.right (And.right (And.right (And.right (And.right (And.right (And.right (And.right (by assumption))))))))))))
              have HKB := Lib.hid HKM.2.2.2.2
              clear HKM hE0 C g0 g1 g2 g3 g4 g5 g6 g7 g8 g9
              go_wp2_with fail
              go_ret
              exact vsaid (not_if hno.out) HKB.out
        · have hne : nm.toList ≠ nm'.toList := fun h => hnn (by
            rw [ByteArray.toList_eq, ByteArray.toList_eq] at h
            exact ByteArray.ext (Array.toList_inj.1 h))
          have e1 : (nm.toList != nm'.toList) = true := by simpa using hne
          have e1' : (nm.toList == nm'.toList) = false := by simpa using hne
          have hno : Hid (¬ m = m') := Lib.hid (fun h => by
            subst h
            have := hE.out.symm.trans hE'.out
            simp only [Option.some.injEq, Prod.mk.injEq] at this
            exact hnn this.1)
          clear hne hnn HA hV hV' hF hF'
          go_wp2_with fail
          go_quiet (fail)
          go_wp2
          go_ret
          exact vsaid (not_if hno.out) (vbelow_draws HBB.out _)
  · have hno : Hid (¬ m = m') := Lib.hid (fun h => hlen (by rw [h]))
    have e0 : ((m.len : Int) != (m'.len : Int)) = true := by simp; omega
    clear H1 H2 HS hlen
    go_enter Try.func17, Try.ntmps17
    go_wp2
    go_ret
    exact vsaid (not_if hno.out) (Below.refl _ _)
end Go.Proofs.Ytgihnhdknphhpaa
