/- The walks of seineref1.Same and seineref1.Members: by induction on the tree. -/
import Derived.Test.YtnmidlbhkjcimaaDoorZMath
import Derived.Deep.QuietTactic
import Derived.BigQuiet
import Derived.Deep.Draws
import Derived.Laws.AppendOwn
import Derived.Laws.OwnMore
import Derived.OwnWalk
import Derived.Deep.AppendLies
import Derived.SizedLaws
namespace Go.Proofs.YtnmidlbhkjcimaaDoor
open Go.RowKit

theorem vaside {p : Prop} (h : p) : Aside p := h
theorem vbelow_draws {B : Nat} {a w : World} (h : Below B a w) (n : Nat) : Below B a (w.drewN n) := ⟨h.os, h.tape, h.output, h.size, h.block⟩
theorem VL.ext : ∀ {l l' : VL}, l.len = l'.len → (∀ j, j < l.len → l.get j = l'.get j) → l = l'
  | .nil, .nil, _, _ => rfl
  | .nil, .cons _ _, h, _ => by simp [VL.len] at h
  | .cons _ _, .nil, h, _ => by simp [VL.len] at h
  | .cons u t, .cons u' t', h, hg => by
    have h0 : u = u' := by simpa [VL.get] using hg 0 (by rw [VL.len]; omega)
    have ht : t = t' := VL.ext (by simp only [VL.len] at h; omega) (fun j hj => by simpa [VL.get] using hg (j + 1) (by rw [VL.len]; omega))
    rw [h0, ht]
theorem VM.ext : ∀ {l l' : VM}, l.len = l'.len → (∀ j, j < l.len → l.get j = l'.get j) → l = l'
  | .nil, .nil, _, _ => rfl
  | .nil, .cons _ _ _, h, _ => by simp [VM.len] at h
  | .cons _ _ _, .nil, h, _ => by simp [VM.len] at h
  | .cons x u t, .cons x' u' t', h, hg => by
    have h0 : x = x' ∧ u = u' := by simpa [VM.get] using hg 0 (by rw [VM.len]; omega)
    have ht : t = t' := VM.ext (by simp only [VM.len] at h; omega) (fun j hj => by simpa [VM.get] using hg (j + 1) (by rw [VM.len]; omega))
    rw [h0.1, h0.2, ht]
/-- The first q agree. -/
def AgreeL (l l' : VL) (q : Nat) : Prop := ∀ j, j < q → l.get j = l'.get j
def AgreeM (l l' : VM) (q : Nat) : Prop := ∀ j, j < q → l.get j = l'.get j
theorem AgreeL.next {l l' : VL} {q : Nat} {v : VT} (h : AgreeL l l' q) (h1 : l.get q = some v) (h2 : l'.get q = some v) : AgreeL l l' (q + 1) := fun j hj => by
  rcases Nat.lt_or_ge j q with h' | h'
  · exact h j h'
  · obtain rfl : j = q := by omega
    rw [h1, h2]
theorem AgreeM.next {l l' : VM} {q : Nat} {v : ByteArray × VT} (h : AgreeM l l' q) (h1 : l.get q = some v) (h2 : l'.get q = some v) : AgreeM l l' (q + 1) := fun j hj => by
  rcases Nat.lt_or_ge j q with h' | h'
  · exact h j h'
  · obtain rfl : j = q := by omega
    rw [h1, h2]

def SameC (u : VT) : Prop := ∀ (v : VT) (c0 c1 c2 c3 c4 d0 d1 d2 d3 d4 : Value) (w : World) (B : Nat), B ≤ w.heap.size → VAt w B u c0 c1 c2 c3 c4 → VAt w B v d0 d1 d2 d3 d4 →
  Calls Tryd.prog 19 #[.agg #[c0, c1, c2, c3, c4], .agg #[d0, d1, d2, d3, d4]] w fun e w' => (∃ b, e = .returned (.bool b) ∧ (b = true ↔ u = v)) ∧ Below w.heap.size w w'
def MembC (m : VM) : Prop := ∀ (m' : VM) (A A' : Option Addr) (c c' : Nat) (w : World) (B : Nat), B ≤ w.heap.size → m.len ≤ 9223372036854775807 → m'.len ≤ 9223372036854775807 → MAt w B m A 0 → MAt w B m' A' 0 →
  Calls Tryd.prog 34 #[.slice A m.len c, .slice A' m'.len c'] w fun e w' => (∃ b, e = .returned (.bool b) ∧ (b = true ↔ m = m')) ∧ Below w.heap.size w w'
theorem vsaid {p q : Prop} {b : Bool} (h : b = true ↔ p) (hq : q) : (∃ b', Ending.returned (.bool b) = .returned (.bool b') ∧ (b' = true ↔ p)) ∧ q := ⟨⟨b, rfl, h⟩, hq⟩
theorem yes_if {p : Prop} (h : p) : true = true ↔ p := ⟨fun _ => h, fun _ => rfl⟩
theorem not_if {p : Prop} (h : ¬ p) : false = true ↔ p := ⟨fun e => by simp at e, fun e => absurd e h⟩
theorem SameC.yes {u v : VT} (h : SameC u) (e : u = v) (c0 c1 c2 c3 c4 d0 d1 d2 d3 d4 : Value) (w : World) (B : Nat) (hB : B ≤ w.heap.size) (h1 : VAt w B u c0 c1 c2 c3 c4) (h2 : VAt w B v d0 d1 d2 d3 d4) :
    Calls Tryd.prog 19 #[.agg #[c0, c1, c2, c3, c4], .agg #[d0, d1, d2, d3, d4]] w fun e w' => e = .returned (.bool true) ∧ Below w.heap.size w w' := by
  refine (h v c0 c1 c2 c3 c4 d0 d1 d2 d3 d4 w B hB h1 h2).mono ?_
  rintro e' w' ⟨⟨b, rfl, hb⟩, hw⟩
  rw [hb.2 e]
  exact ⟨rfl, hw⟩
theorem SameC.no {u v : VT} (h : SameC u) (e : ¬ u = v) (c0 c1 c2 c3 c4 d0 d1 d2 d3 d4 : Value) (w : World) (B : Nat) (hB : B ≤ w.heap.size) (h1 : VAt w B u c0 c1 c2 c3 c4) (h2 : VAt w B v d0 d1 d2 d3 d4) :
    Calls Tryd.prog 19 #[.agg #[c0, c1, c2, c3, c4], .agg #[d0, d1, d2, d3, d4]] w fun e w' => e = .returned (.bool false) ∧ Below w.heap.size w w' := by
  refine (h v c0 c1 c2 c3 c4 d0 d1 d2 d3 d4 w B hB h1 h2).mono ?_
  rintro e' w' ⟨⟨b, rfl, hb⟩, hw⟩
  have : b = false := by cases b; rfl; exact absurd (hb.1 rfl) e
  rw [this]
  exact ⟨rfl, hw⟩
/-- Two members at hand. -/
def KE (w : World) (b O : Nat) (nm d0 d1 d2 d3 d4 : Value) (b' O' : Nat) (nm' f0 f1 f2 f3 f4 : Value) (W : World) : Prop :=
  W.cell? ⟨b, O, none⟩ = some nm ∧ Five W b (O + 1) d0 d1 d2 d3 d4 ∧ W.cell? ⟨b', O', none⟩ = some nm' ∧ Five W b' (O' + 1) f0 f1 f2 f3 f4 ∧ Below w.heap.size w W
theorem KE.next {w W W' : World} {b O : Nat} {nm d0 d1 d2 d3 d4 : Value} {b' O' : Nat} {nm' f0 f1 f2 f3 f4 : Value} (h : KE w b O nm d0 d1 d2 d3 d4 b' O' nm' f0 f1 f2 f3 f4 W) (hl : b < w.heap.size) (hl' : b' < w.heap.size) (hb : Below W.heap.size W W') : KE w b O nm d0 d1 d2 d3 d4 b' O' nm' f0 f1 f2 f3 f4 W' := by
  obtain ⟨h1, h2, h3, h4, hB⟩ := h
  have g := Nat.lt_of_lt_of_le hl hB.size
  have g' := Nat.lt_of_lt_of_le hl' hB.size
  exact ⟨(hb.cell (p := ⟨b, _, none⟩) g).trans h1, h2.below hb g, (hb.cell (p := ⟨b', _, none⟩) g').trans h3, h4.below hb g', hB.trans (hb.mono hB.size)⟩
theorem KE.written {w W : World} {b O : Nat} {nm d0 d1 d2 d3 d4 : Value} {b' O' : Nat} {nm' f0 f1 f2 f3 f4 : Value} (h : KE w b O nm d0 d1 d2 d3 d4 b' O' nm' f0 f1 f2 f3 f4 W) :
    W.cell? ⟨b, O, none⟩ = some nm ∧ W.cell? ⟨b, O + 1, none⟩ = some d0 ∧ W.cell? ⟨b, O + 1 + 1, none⟩ = some d1 ∧ W.cell? ⟨b, O + 1 + 2, none⟩ = some d2 ∧ W.cell? ⟨b, O + 1 + 3, none⟩ = some d3 ∧ W.cell? ⟨b, O + 1 + 4, none⟩ = some d4 ∧
    W.cell? ⟨b', O', none⟩ = some nm' ∧ W.cell? ⟨b', O' + 1, none⟩ = some f0 ∧ W.cell? ⟨b', O' + 1 + 1, none⟩ = some f1 ∧ W.cell? ⟨b', O' + 1 + 2, none⟩ = some f2 ∧ W.cell? ⟨b', O' + 1 + 3, none⟩ = some f3 ∧ W.cell? ⟨b', O' + 1 + 4, none⟩ = some f4 ∧
    KE w b O nm d0 d1 d2 d3 d4 b' O' nm' f0 f1 f2 f3 f4 W :=
  ⟨h.1, h.2.1.1, h.2.1.2.1, h.2.1.2.2.1, h.2.1.2.2.2.1, h.2.1.2.2.2.2, h.2.2.1, h.2.2.2.1.1, h.2.2.2.1.2.1, h.2.2.2.1.2.2.1, h.2.2.2.1.2.2.2.1, h.2.2.2.1.2.2.2.2, h⟩

set_option maxRecDepth 100000 in
set_option maxHeartbeats 4000000 in
theorem memb_any (N : Nat) (H : ∀ u, sizeV u ≤ N → SameC u) : ∀ m, sizeM m ≤ N → MembC m := by
  intro m hm m' A A' c c' w B hB hl hl' h1 h2
  have H1 := Lib.hid h1
  have H2 := Lib.hid h2
  have HS := Lib.hid H
  have HB0 := Lib.hid hB
  clear h1 h2 H hB
  by_cases hlen : m.len = m'.len
  · generalize hn : m.len = n at *
    have HN := Lib.hid hn
    have HN' := Lib.hid hlen
    subst hlen
    clear hn
    have e0 : ((m'.len : Int) != (m'.len : Int)) = false := by simp
    go_enter Tryd.func34, Tryd.ntmps34
    go_wp2_with fail
    go_loopg [5] m'.len (fun g i wx => ∃ q : Nat, q + g = m'.len ∧ i = .int .i64 q ∧ Below w.heap.size w wx ∧ Aside (AgreeM m m' q))
    case atStart => exact ⟨0, by omega, rfl, Below.refl _ _, vaside (fun j hj => by omega)⟩
    case round =>
      obtain ⟨q, hq, rfl, hb, HA⟩ := hrel
      have HBB := Lib.hid hb
      clear hb
      cases gk with
      | zero =>
        obtain rfl : q = m'.len := by omega
        have hE : Hid (m = m') := Lib.hid (VM.ext HN.out (by rw [HN.out]; exact HA.out))
        clear HA
        go_wp2_with fail
        go_ret
        exact vsaid (yes_if hE.out) HBB.out
      | succ g =>
        have hqn : q < m'.len := by omega
        have hqn' : (q : Int) < (m'.len : Int) := by omega
        obtain ⟨⟨nm, v⟩, hv⟩ := VM.get_lt (l := m) (j := q) (by rw [HN.out]; exact hqn)
        obtain ⟨⟨nm', v'⟩, hv'⟩ := VM.get_lt hqn
        have hvN := sizeM_get hv
        obtain ⟨b, o, d0, d1, d2, d3, d4, rfl, hblt, hnm, hns, hF, hV⟩ := MAt.at (MAt.below (HBB.out.mono HB0.out) _ _ _ H1.out) hv
        obtain ⟨b', o', f0, f1, f2, f3, f4, rfl, hblt', hnm', hns', hF', hV'⟩ := MAt.at (MAt.below (HBB.out.mono HB0.out) _ _ _ H2.out) hv'
        rw [Nat.zero_add] at hF hnm hF' hnm'
        have hE := Lib.hid hv
        have hE' := Lib.hid hv'
        clear hv hv'
        by_cases hnn : nm = nm'
        · subst hnn
          have e1 : (nm.toList != nm.toList) = false := by simp
          have e1' : (nm.toList == nm.toList) = true := by simp
          have HBW : Hid (b < w.heap.size) := Lib.hid (Nat.lt_of_lt_of_le hblt HB0.out)
          have HBW' : Hid (b' < w.heap.size) := Lib.hid (Nat.lt_of_lt_of_le hblt' HB0.out)
          have hE0 : KE w b (o + q * 6) (.string nm) d0 d1 d2 d3 d4 b' (o' + q * 6) (.string nm) f0 f1 f2 f3 f4 wr := ⟨hnm, hF, hnm', hF', HBB.out⟩
          obtain ⟨g0, g1, g2, g3, g4⟩ := hF
          obtain ⟨g5, g6, g7, g8, g9⟩ := hF'
          by_cases hvv : v = v'
          · subst hvv
            have C := fun (wx : World) (hx : Below wr.heap.size wr wx) => Lib.hid ((HS.out v (by omega)).yes rfl d0 d1 d2 d3 d4 f0 f1 f2 f3 f4 wx B (Nat.le_trans HB0.out (Nat.le_trans HBB.out.size hx.size)) (VAt.below (hx.mono (Nat.le_trans HB0.out HBB.out.size)) _ _ _ _ _ _ hV) (VAt.below (hx.mono (Nat.le_trans HB0.out HBB.out.size)) _ _ _ _ _ _ hV'))
            have hnx : Hid (AgreeM m m' (q + 1)) := Lib.hid (AgreeM.next HA.out hE.out hE'.out)
            clear hV hV' HA hvN hblt hblt'
            go_wp2_with fail
            go_region_held3 (fun w' => w'.cell? ⟨b, o + q * 6, none⟩ = some (.string nm) ∧ w'.cell? ⟨b, o + q * 6 + 1, none⟩ = some d0 ∧ w'.cell? ⟨b, o + q * 6 + 1 + 1, none⟩ = some d1 ∧ w'.cell? ⟨b, o + q * 6 + 1 + 2, none⟩ = some d2 ∧ w'.cell? ⟨b, o + q * 6 + 1 + 3, none⟩ = some d3 ∧ w'.cell? ⟨b, o + q * 6 + 1 + 4, none⟩ = some d4 ∧ w'.cell? ⟨b', o' + q * 6, none⟩ = some (.string nm) ∧ w'.cell? ⟨b', o' + q * 6 + 1, none⟩ = some f0 ∧ w'.cell? ⟨b', o' + q * 6 + 1 + 1, none⟩ = some f1 ∧ w'.cell? ⟨b', o' + q * 6 + 1 + 2, none⟩ = some f2 ∧ w'.cell? ⟨b', o' + q * 6 + 1 + 3, none⟩ = some f3 ∧ w'.cell? ⟨b', o' + q * 6 + 1 + 4, none⟩ = some f4 ∧ KE w b (o + q * 6) (.string nm) d0 d1 d2 d3 d4 b' (o' + q * 6) (.string nm) f0 f1 f2 f3 f4 w')
              (first
                | exact KE.written (KE.next hE0 HBW.out HBW'.out (Below.drew (Below.refl _ _)))
                | exact KE.written ((KE.next hE0 HBW.out HBW'.out (Below.drew (Below.refl _ _))).next HBW.out HBW'.out (by assumption))
                | exact KE.written (KE.next hE0 HBW.out HBW'.out (by assumption))
                | exact KE.written (KE.next (by assumption) HBW.out HBW'.out (by assumption))
                | go_keep)
              ((first | (go_at_call 19; refine (C _ (by first | exact Below.drew (Below.refl _ _) | exact Below.refl _ _ | assumption)).out.mono ?_; rintro e w' ⟨rfl, hb⟩)))
            all_goals
              have HKM : KE w b (o + q * 6) (.string nm) d0 d1 d2 d3 d4 b' (o' + q * 6) (.string nm) f0 f1 f2 f3 f4 w' := And.right (And.right (And.right (And.right (And.right (And.right (And.right (And.right (And.right (And.right (And.right (And.right (by assumption))))))))))))
              have HKB := Lib.hid HKM.2.2.2.2
              clear HKM hE0 C g0 g1 g2 g3 g4 g5 g6 g7 g8 g9
              go_wp2_with fail
              go_roundg g
              case measure => omega
              case rel => exact ⟨q + 1, by omega, by go_num, HKB.out, vaside hnx.out⟩
          · have C := fun (wx : World) (hx : Below wr.heap.size wr wx) => Lib.hid ((HS.out v (by omega)).no hvv d0 d1 d2 d3 d4 f0 f1 f2 f3 f4 wx B (Nat.le_trans HB0.out (Nat.le_trans HBB.out.size hx.size)) (VAt.below (hx.mono (Nat.le_trans HB0.out HBB.out.size)) _ _ _ _ _ _ hV) (VAt.below (hx.mono (Nat.le_trans HB0.out HBB.out.size)) _ _ _ _ _ _ hV'))
            have hno : Hid (¬ m = m') := Lib.hid (fun h => by
              subst h
              have := hE.out.symm.trans hE'.out
              simp only [Option.some.injEq, Prod.mk.injEq] at this
              exact hvv this.2)
            clear hV hV' HA hvN hblt hblt' hvv
            go_wp2_with fail
            go_region_held3 (fun w' => w'.cell? ⟨b, o + q * 6, none⟩ = some (.string nm) ∧ w'.cell? ⟨b, o + q * 6 + 1, none⟩ = some d0 ∧ w'.cell? ⟨b, o + q * 6 + 1 + 1, none⟩ = some d1 ∧ w'.cell? ⟨b, o + q * 6 + 1 + 2, none⟩ = some d2 ∧ w'.cell? ⟨b, o + q * 6 + 1 + 3, none⟩ = some d3 ∧ w'.cell? ⟨b, o + q * 6 + 1 + 4, none⟩ = some d4 ∧ w'.cell? ⟨b', o' + q * 6, none⟩ = some (.string nm) ∧ w'.cell? ⟨b', o' + q * 6 + 1, none⟩ = some f0 ∧ w'.cell? ⟨b', o' + q * 6 + 1 + 1, none⟩ = some f1 ∧ w'.cell? ⟨b', o' + q * 6 + 1 + 2, none⟩ = some f2 ∧ w'.cell? ⟨b', o' + q * 6 + 1 + 3, none⟩ = some f3 ∧ w'.cell? ⟨b', o' + q * 6 + 1 + 4, none⟩ = some f4 ∧ KE w b (o + q * 6) (.string nm) d0 d1 d2 d3 d4 b' (o' + q * 6) (.string nm) f0 f1 f2 f3 f4 w')
              (first
                | exact KE.written (KE.next hE0 HBW.out HBW'.out (Below.drew (Below.refl _ _)))
                | exact KE.written ((KE.next hE0 HBW.out HBW'.out (Below.drew (Below.refl _ _))).next HBW.out HBW'.out (by assumption))
                | exact KE.written (KE.next hE0 HBW.out HBW'.out (by assumption))
                | exact KE.written (KE.next (by assumption) HBW.out HBW'.out (by assumption))
                | go_keep)
              ((first | (go_at_call 19; refine (C _ (by first | exact Below.drew (Below.refl _ _) | exact Below.refl _ _ | assumption)).out.mono ?_; rintro e w' ⟨rfl, hb⟩)))
            all_goals
              have HKM : KE w b (o + q * 6) (.string nm) d0 d1 d2 d3 d4 b' (o' + q * 6) (.string nm) f0 f1 f2 f3 f4 w' := And.right (And.right (And.right (And.right (And.right (And.right (And.right (And.right (And.right (And.right (And.right (And.right (by assumption))))))))))))
              have HKB := Lib.hid HKM.2.2.2.2
              clear HKM hE0 C g0 g1 g2 g3 g4 g5 g6 g7 g8 g9
              go_wp2_with fail
              go_ret
              exact vsaid (not_if hno.out) HKB.out
        · have hne : nm.toList ≠ nm'.toList := fun h => hnn (by
            rw [ByteArray.toList_eq, ByteArray.toList_eq] at h
            exact ByteArray.ext (Array.toList_inj.1 h))
          have e1 : (nm.toList != nm'.toList) = true := by simpa using hne
          have e1' : (nm.toList == nm'.toList) = false := by simpa using hne
          have hno : Hid (¬ m = m') := Lib.hid (fun h => by
            subst h
            have := hE.out.symm.trans hE'.out
            simp only [Option.some.injEq, Prod.mk.injEq] at this
            exact hnn this.1)
          clear hne hnn HA hV hV' hF hF'
          go_wp2_with fail
          go_quiet (fail)
          go_wp2
          go_ret
          exact vsaid (not_if hno.out) (vbelow_draws HBB.out _)
  · have hno : Hid (¬ m = m') := Lib.hid (fun h => hlen (by rw [h]))
    have e0 : ((m.len : Int) != (m'.len : Int)) = true := by simp; omega
    clear H1 H2 HS hlen
    go_enter Tryd.func34, Tryd.ntmps34
    go_wp2
    go_ret
    exact vsaid (not_if hno.out) (Below.refl _ _)
end Go.Proofs.YtnmidlbhkjcimaaDoor
/- Values whose blocks are named by a predicate: for a copy that is being built; rows of values and of members. -/
namespace Go.Proofs.YtnmidlbhkjcimaaDoor
open Go.RowKit

mutual
/-- As VAt, the blocks being those of which P speaks. -/
def VP (w : World) (P : Nat → Prop) : VT → Value → Value → Value → Value → Value → Prop
  | .mk k n s l m, c0, c1, c2, c3, c4 => c0 = .int .i64 k ∧ c1 = .int .i64 n ∧ c2 = .string s ∧ s.size ≤ 9223372036854775807 ∧ (∃ A c, c3 = .slice A l.len c ∧ l.len ≤ 9223372036854775807 ∧ LP w P l A 0) ∧ ∃ A c, c4 = .slice A m.len c ∧ m.len ≤ 9223372036854775807 ∧ MP w P m A 0
def LP (w : World) (P : Nat → Prop) : VL → Option Addr → Nat → Prop
  | .nil, _, _ => True
  | .cons v t, A, j => (∃ b o c0 c1 c2 c3 c4, A = some ⟨b, o, none⟩ ∧ P b ∧ Five w b (o + j * 5) c0 c1 c2 c3 c4 ∧ VP w P v c0 c1 c2 c3 c4) ∧ LP w P t A (j + 1)
def MP (w : World) (P : Nat → Prop) : VM → Option Addr → Nat → Prop
  | .nil, _, _ => True
  | .cons nm v t, A, j => (∃ b o c0 c1 c2 c3 c4, A = some ⟨b, o, none⟩ ∧ P b ∧ w.cell? ⟨b, o + j * 6, none⟩ = some (.string nm) ∧ nm.size ≤ 9223372036854775807 ∧ Five w b (o + j * 6 + 1) c0 c1 c2 c3 c4 ∧ VP w P v c0 c1 c2 c3 c4) ∧ MP w P t A (j + 1)
end
theorem Five.heap {w w' : World} {b o : Nat} {c0 c1 c2 c3 c4 : Value} (h : Five w b o c0 c1 c2 c3 c4) (hb : w'.heap[b]? = w.heap[b]?) : Five w' b o c0 c1 c2 c3 c4 :=
  ⟨(World.cell?_of_block (a := ⟨b, _, none⟩) hb).trans h.1, (World.cell?_of_block (a := ⟨b, _, none⟩) hb).trans h.2.1, (World.cell?_of_block (a := ⟨b, _, none⟩) hb).trans h.2.2.1, (World.cell?_of_block (a := ⟨b, _, none⟩) hb).trans h.2.2.2.1, (World.cell?_of_block (a := ⟨b, _, none⟩) hb).trans h.2.2.2.2⟩
mutual
theorem VP.keep {w w' : World} {P P' : Nat → Prop} (hP : ∀ b, P b → P' b ∧ w'.heap[b]? = w.heap[b]?) : ∀ (v : VT) (c0 c1 c2 c3 c4 : Value), VP w P v c0 c1 c2 c3 c4 → VP w' P' v c0 c1 c2 c3 c4
  | .mk k n s l m, c0, c1, c2, c3, c4, h => by
    unfold VP at h ⊢
    obtain ⟨h0, h1, h2, hs, ⟨A, c, h3, g3, h4⟩, A', c', h5, g5, h6⟩ := h
    exact ⟨h0, h1, h2, hs, ⟨A, c, h3, g3, LP.keep hP l A 0 h4⟩, A', c', h5, g5, MP.keep hP m A' 0 h6⟩
theorem LP.keep {w w' : World} {P P' : Nat → Prop} (hP : ∀ b, P b → P' b ∧ w'.heap[b]? = w.heap[b]?) : ∀ (l : VL) (A : Option Addr) (j : Nat), LP w P l A j → LP w' P' l A j
  | .nil, _, _, _ => by unfold LP; trivial
  | .cons v t, A, j, h => by
    unfold LP at h ⊢
    obtain ⟨⟨b, o, c0, c1, c2, c3, c4, hA, hlt, hf, hv⟩, ht⟩ := h
    exact ⟨⟨b, o, c0, c1, c2, c3, c4, hA, (hP b hlt).1, hf.heap (hP b hlt).2, VP.keep hP v _ _ _ _ _ hv⟩, LP.keep hP t A (j + 1) ht⟩
theorem MP.keep {w w' : World} {P P' : Nat → Prop} (hP : ∀ b, P b → P' b ∧ w'.heap[b]? = w.heap[b]?) : ∀ (l : VM) (A : Option Addr) (j : Nat), MP w P l A j → MP w' P' l A j
  | .nil, _, _, _ => by unfold MP; trivial
  | .cons nm v t, A, j, h => by
    unfold MP at h ⊢
    obtain ⟨⟨b, o, c0, c1, c2, c3, c4, hA, hlt, hn, hz, hf, hv⟩, ht⟩ := h
    exact ⟨⟨b, o, c0, c1, c2, c3, c4, hA, (hP b hlt).1, (World.cell?_of_block (a := ⟨b, _, none⟩) (hP b hlt).2).trans hn, hz, hf.heap (hP b hlt).2, VP.keep hP v _ _ _ _ _ hv⟩, MP.keep hP t A (j + 1) ht⟩
end
mutual
theorem VP.at {w : World} {B : Nat} {P : Nat → Prop} (hP : ∀ b, P b → b < B) : ∀ (v : VT) (c0 c1 c2 c3 c4 : Value), VP w P v c0 c1 c2 c3 c4 → VAt w B v c0 c1 c2 c3 c4
  | .mk k n s l m, c0, c1, c2, c3, c4, h => by
    unfold VP at h
    unfold VAt
    obtain ⟨h0, h1, h2, hs, ⟨A, c, h3, g3, h4⟩, A', c', h5, g5, h6⟩ := h
    exact ⟨h0, h1, h2, hs, ⟨A, c, h3, g3, LP.at hP l A 0 h4⟩, A', c', h5, g5, MP.at hP m A' 0 h6⟩
theorem LP.at {w : World} {B : Nat} {P : Nat → Prop} (hP : ∀ b, P b → b < B) : ∀ (l : VL) (A : Option Addr) (j : Nat), LP w P l A j → LAt w B l A j
  | .nil, _, _, _ => by unfold LAt; trivial
  | .cons v t, A, j, h => by
    unfold LP at h
    unfold LAt
    obtain ⟨⟨b, o, c0, c1, c2, c3, c4, hA, hlt, hf, hv⟩, ht⟩ := h
    exact ⟨⟨b, o, c0, c1, c2, c3, c4, hA, hP b hlt, hf, VP.at hP v _ _ _ _ _ hv⟩, LP.at hP t A (j + 1) ht⟩
theorem MP.at {w : World} {B : Nat} {P : Nat → Prop} (hP : ∀ b, P b → b < B) : ∀ (l : VM) (A : Option Addr) (j : Nat), MP w P l A j → MAt w B l A j
  | .nil, _, _, _ => by unfold MAt; trivial
  | .cons nm v t, A, j, h => by
    unfold MP at h
    unfold MAt
    obtain ⟨⟨b, o, c0, c1, c2, c3, c4, hA, hlt, hn, hz, hf, hv⟩, ht⟩ := h
    exact ⟨⟨b, o, c0, c1, c2, c3, c4, hA, hP b hlt, hn, hz, hf, VP.at hP v _ _ _ _ _ hv⟩, MP.at hP t A (j + 1) ht⟩
end
/-- These cells in a row are the list's values. -/
def ValsL (w : World) (P : Nat → Prop) : VL → List Value → Prop
  | .nil, xs => xs = []
  | .cons v t, xs => ∃ c0 c1 c2 c3 c4 ys, xs = c0 :: c1 :: c2 :: c3 :: c4 :: ys ∧ VP w P v c0 c1 c2 c3 c4 ∧ ValsL w P t ys
def ValsM (w : World) (P : Nat → Prop) : VM → List Value → Prop
  | .nil, xs => xs = []
  | .cons nm v t, xs => ∃ c0 c1 c2 c3 c4 ys, xs = .string nm :: c0 :: c1 :: c2 :: c3 :: c4 :: ys ∧ nm.size ≤ 9223372036854775807 ∧ VP w P v c0 c1 c2 c3 c4 ∧ ValsM w P t ys
def VL.snoc : VL → VT → VL
  | .nil, v => .cons v .nil
  | .cons u t, v => .cons u (t.snoc v)
def VM.snoc : VM → ByteArray → VT → VM
  | .nil, nm, v => .cons nm v .nil
  | .cons x u t, nm, v => .cons x u (t.snoc nm v)
def VL.take : VL → Nat → VL
  | _, 0 => .nil
  | .nil, _ + 1 => .nil
  | .cons v t, j + 1 => .cons v (t.take j)
def VM.take : VM → Nat → VM
  | _, 0 => .nil
  | .nil, _ + 1 => .nil
  | .cons nm v t, j + 1 => .cons nm v (t.take j)
theorem VL.take_zero (l : VL) : l.take 0 = .nil := by cases l <;> rfl
theorem VM.take_zero (l : VM) : l.take 0 = .nil := by cases l <;> rfl
theorem VL.take_all : ∀ l : VL, l.take l.len = l
  | .nil => rfl
  | .cons v t => by rw [VL.len, VL.take, VL.take_all t]
theorem VM.take_all : ∀ l : VM, l.take l.len = l
  | .nil => rfl
  | .cons nm v t => by rw [VM.len, VM.take, VM.take_all t]
theorem VL.take_next : ∀ {l : VL} {j : Nat} {v : VT}, l.get j = some v → l.take (j + 1) = (l.take j).snoc v
  | .nil, _, _, h => by simp [VL.get] at h
  | .cons u t, 0, v, h => by
    have : u = v := by simpa [VL.get] using h
    subst this
    show VL.cons u (t.take 0) = VL.cons u .nil
    rw [VL.take_zero]
  | .cons u t, j + 1, v, h => by
    have := VL.take_next (l := t) (j := j) (v := v) h
    rw [VL.take, this, VL.take, VL.snoc]
theorem VM.take_next : ∀ {l : VM} {j : Nat} {nm : ByteArray} {v : VT}, l.get j = some (nm, v) → l.take (j + 1) = (l.take j).snoc nm v
  | .nil, _, _, _, h => by simp [VM.get] at h
  | .cons x u t, 0, nm, v, h => by
    have : x = nm ∧ u = v := by simpa [VM.get] using h
    obtain ⟨rfl, rfl⟩ := this
    show VM.cons x u (t.take 0) = VM.cons x u .nil
    rw [VM.take_zero]
  | .cons x u t, j + 1, nm, v, h => by
    have := VM.take_next (l := t) (j := j) (nm := nm) (v := v) h
    rw [VM.take, this, VM.take, VM.snoc]
theorem ValsL.keep {w w' : World} {P P' : Nat → Prop} (hP : ∀ b, P b → P' b ∧ w'.heap[b]? = w.heap[b]?) : ∀ {l : VL} {xs : List Value}, ValsL w P l xs → ValsL w' P' l xs
  | .nil, _, h => h
  | .cons v t, xs, h => by
    obtain ⟨c0, c1, c2, c3, c4, ys, e, hv, ht⟩ := h
    exact ⟨c0, c1, c2, c3, c4, ys, e, VP.keep hP _ _ _ _ _ _ hv, ValsL.keep hP ht⟩
theorem ValsM.keep {w w' : World} {P P' : Nat → Prop} (hP : ∀ b, P b → P' b ∧ w'.heap[b]? = w.heap[b]?) : ∀ {l : VM} {xs : List Value}, ValsM w P l xs → ValsM w' P' l xs
  | .nil, _, h => h
  | .cons nm v t, xs, h => by
    obtain ⟨c0, c1, c2, c3, c4, ys, e, hn, hv, ht⟩ := h
    exact ⟨c0, c1, c2, c3, c4, ys, e, hn, VP.keep hP _ _ _ _ _ _ hv, ValsM.keep hP ht⟩
theorem ValsL.snoc {w : World} {P : Nat → Prop} {v : VT} {d0 d1 d2 d3 d4 : Value} (hd : VP w P v d0 d1 d2 d3 d4) : ∀ {l : VL} {xs : List Value}, ValsL w P l xs → ValsL w P (l.snoc v) (xs ++ [d0, d1, d2, d3, d4])
  | .nil, xs, h => by
    have : xs = [] := h
    subst this
    exact ⟨d0, d1, d2, d3, d4, [], rfl, hd, rfl⟩
  | .cons u t, xs, h => by
    obtain ⟨c0, c1, c2, c3, c4, ys, rfl, hv, ht⟩ := h
    exact ⟨c0, c1, c2, c3, c4, ys ++ [d0, d1, d2, d3, d4], by simp, hv, ValsL.snoc hd ht⟩
theorem ValsM.snoc {w : World} {P : Nat → Prop} {nm : ByteArray} {v : VT} {d0 d1 d2 d3 d4 : Value} (hn : nm.size ≤ 9223372036854775807) (hd : VP w P v d0 d1 d2 d3 d4) : ∀ {l : VM} {xs : List Value}, ValsM w P l xs → ValsM w P (l.snoc nm v) (xs ++ [.string nm, d0, d1, d2, d3, d4])
  | .nil, xs, h => by
    have : xs = [] := h
    subst this
    exact ⟨d0, d1, d2, d3, d4, [], rfl, hn, hd, rfl⟩
  | .cons x u t, xs, h => by
    obtain ⟨c0, c1, c2, c3, c4, ys, rfl, hx, hv, ht⟩ := h
    exact ⟨c0, c1, c2, c3, c4, ys ++ [.string nm, d0, d1, d2, d3, d4], by simp, hx, hv, ValsM.snoc hn hd ht⟩
theorem LP.of_cells {w : World} {P : Nat → Prop} {g : Nat} (hg : P g) : ∀ {l : VL} {xs : List Value} (i : Nat), ValsL w P l xs → (∀ j u, xs[j]? = some u → w.cell? ⟨g, i * 5 + j, none⟩ = some u) → LP w P l (some ⟨g, 0, none⟩) i
  | .nil, _, _, _, _ => by unfold LP; trivial
  | .cons v t, xs, i, h, hc => by
    obtain ⟨c0, c1, c2, c3, c4, ys, rfl, hv, ht⟩ := h
    unfold LP
    refine ⟨⟨g, 0, c0, c1, c2, c3, c4, rfl, hg, ?_, hv⟩, LP.of_cells hg (i + 1) ht (fun j u hj => ?_)⟩
    · rw [Nat.zero_add]
      exact ⟨hc 0 c0 rfl, hc 1 c1 rfl, hc 2 c2 rfl, hc 3 c3 rfl, hc 4 c4 rfl⟩
    · have := hc (j + 5) u (by simpa using hj)
      rwa [show i * 5 + (j + 5) = (i + 1) * 5 + j by omega] at this
theorem MP.of_cells {w : World} {P : Nat → Prop} {g : Nat} (hg : P g) : ∀ {l : VM} {xs : List Value} (i : Nat), ValsM w P l xs → (∀ j u, xs[j]? = some u → w.cell? ⟨g, i * 6 + j, none⟩ = some u) → MP w P l (some ⟨g, 0, none⟩) i
  | .nil, _, _, _, _ => by unfold MP; trivial
  | .cons nm v t, xs, i, h, hc => by
    obtain ⟨c0, c1, c2, c3, c4, ys, rfl, hn, hv, ht⟩ := h
    unfold MP
    refine ⟨⟨g, 0, c0, c1, c2, c3, c4, rfl, hg, ?_, hn, ?_, hv⟩, MP.of_cells hg (i + 1) ht (fun j u hj => ?_)⟩
    · rw [Nat.zero_add]; exact hc 0 _ rfl
    · rw [Nat.zero_add]
      exact ⟨hc 1 c0 rfl, hc 2 c1 rfl, hc 3 c2 rfl, hc 4 c3 rfl, hc 5 c4 rfl⟩
    · have := hc (j + 6) u (by simpa using hj)
      rwa [show i * 6 + (j + 6) = (i + 1) * 6 + j by omega] at this
/-- A row that is owned, and whose cells are the list's. -/
theorem row_list {w : World} {base : Nat} {V : Value} {P : Nat → Prop} {l : VL} {xs : List Value} (h : w.ownsRow base 25 5 V l.len xs) (hv : ValsL w P l xs) :
    ∃ A c, V = .slice A l.len c ∧ LP w (fun b => P b ∨ V.ownBlock = some b) l A 0 := by
  rcases h.2 with ⟨hV, hn⟩ | ⟨g, c, cur, hV, _⟩
  · refine ⟨none, 0, by rw [hV, hn], ?_⟩
    cases l with
    | nil => unfold LP; trivial
    | cons v t => simp [VL.len] at hn
  · have hg : V.ownBlock = some g := by rw [hV]; rfl
    refine ⟨some ⟨g, 0, none⟩, c, hV, LP.of_cells (.inr hg) 0 (hv.keep (fun b hb => ⟨.inl hb, rfl⟩)) (fun j u hj => ?_)⟩
    have := h.cells hg j u hj
    rwa [add_at, Nat.zero_add, show j = 0 * 5 + j by omega] at this
theorem row_members {w : World} {base : Nat} {V : Value} {P : Nat → Prop} {l : VM} {xs : List Value} (h : w.ownsRow base 39 6 V l.len xs) (hv : ValsM w P l xs) :
    ∃ A c, V = .slice A l.len c ∧ MP w (fun b => P b ∨ V.ownBlock = some b) l A 0 := by
  rcases h.2 with ⟨hV, hn⟩ | ⟨g, c, cur, hV, _⟩
  · refine ⟨none, 0, by rw [hV, hn], ?_⟩
    cases l with
    | nil => unfold MP; trivial
    | cons nm v t => simp [VM.len] at hn
  · have hg : V.ownBlock = some g := by rw [hV]; rfl
    refine ⟨some ⟨g, 0, none⟩, c, hV, MP.of_cells (.inr hg) 0 (hv.keep (fun b hb => ⟨.inl hb, rfl⟩)) (fun j u hj => ?_)⟩
    have := h.cells hg j u hj
    rwa [add_at, Nat.zero_add, show j = 0 * 6 + j by omega] at this
end Go.Proofs.YtnmidlbhkjcimaaDoor
/- The walk of seinekeep.Value: a copy of a value, from that of its parts. -/
namespace Go.Proofs.YtnmidlbhkjcimaaDoor
open Go.RowKit

theorem info_val : (Tryd.prog.info? 25).map (fun i => (i.zero, i.size, i.bytes)) = some (some (.agg #[.int .i64 0, .int .i64 0, .string ⟨#[]⟩, .slice none 0 0, .slice none 0 0]), 5, 80) := by kernel_rfl
theorem info_mem : (Tryd.prog.info? 39).map (fun i => (i.zero, i.size, i.bytes)) = some (some (.agg #[.string ⟨#[]⟩, .int .i64 0, .int .i64 0, .string ⟨#[]⟩, .slice none 0 0, .slice none 0 0]), 6, 96) := by kernel_rfl
theorem sizeV_pos : ∀ v : VT, 1 ≤ sizeV v
  | .mk _ _ _ _ _ => by rw [sizeV]; omega
theorem lenL_le : ∀ l : VL, l.len ≤ sizeL l
  | .nil => Nat.le_refl _
  | .cons v t => by rw [VL.len, sizeL]; have := lenL_le t; have := sizeV_pos v; omega
theorem lenM_le : ∀ l : VM, l.len ≤ sizeM l
  | .nil => Nat.le_refl _
  | .cons nm v t => by rw [VM.len, sizeM]; have := lenM_le t; have := sizeV_pos v; omega
mutual
/-- No list in it takes more than 2^47 bytes. -/
def SlimV : VT → Prop
  | .mk _ _ _ l m => l.len * 80 ≤ 140737488355328 ∧ m.len * 96 ≤ 140737488355328 ∧ SlimL l ∧ SlimM m
def SlimL : VL → Prop
  | .nil => True
  | .cons v t => SlimV v ∧ SlimL t
def SlimM : VM → Prop
  | .nil => True
  | .cons _ v t => SlimV v ∧ SlimM t
end
theorem SlimL.get : ∀ {l : VL} {j : Nat} {v : VT}, SlimL l → l.get j = some v → SlimV v
  | .nil, _, _, _, h => by simp [VL.get] at h
  | .cons u t, 0, v, hs, h => by
    have : u = v := by simpa [VL.get] using h
    subst this
    unfold SlimL at hs
    exact hs.1
  | .cons u t, j + 1, v, hs, h => by
    unfold SlimL at hs
    exact SlimL.get (l := t) (j := j) hs.2 h
theorem SlimM.get : ∀ {l : VM} {j : Nat} {nm : ByteArray} {v : VT}, SlimM l → l.get j = some (nm, v) → SlimV v
  | .nil, _, _, _, _, h => by simp [VM.get] at h
  | .cons x u t, 0, nm, v, hs, h => by
    have : x = nm ∧ u = v := by simpa [VM.get] using h
    obtain ⟨_, rfl⟩ := this
    unfold SlimM at hs
    exact hs.1
  | .cons x u t, j + 1, nm, v, hs, h => by
    unfold SlimM at hs
    exact SlimM.get (l := t) (j := j) hs.2 h
mutual
theorem slim_of : ∀ v : VT, sizeV v ≤ 1000000000 → SlimV v
  | .mk k n s l m, h => by
    rw [sizeV] at h
    have h1 := lenL_le l
    have h2 := lenM_le m
    unfold SlimV
    exact ⟨by omega, by omega, slimL_of l (by omega), slimM_of m (by omega)⟩
theorem slimL_of : ∀ l : VL, sizeL l ≤ 1000000000 → SlimL l
  | .nil, _ => by unfold SlimL; trivial
  | .cons v t, h => by
    rw [sizeL] at h
    unfold SlimL
    exact ⟨slim_of v (by omega), slimL_of t (by omega)⟩
theorem slimM_of : ∀ l : VM, sizeM l ≤ 1000000000 → SlimM l
  | .nil, _ => by unfold SlimM; trivial
  | .cons nm v t, h => by
    rw [sizeM] at h
    unfold SlimM
    exact ⟨slim_of v (by omega), slimM_of t (by omega)⟩
end
/-- The blocks that are new since w. -/
def Fresh (w w' : World) (b : Nat) : Prop := w.heap.size ≤ b ∧ b < w'.heap.size
def CopyC (v : VT) : Prop := ∀ (c0 c1 c2 c3 c4 : Value) (w : World) (B : Nat), B ≤ w.heap.size → VAt w B v c0 c1 c2 c3 c4 →
  Calls Tryd.prog 6 #[.agg #[c0, c1, c2, c3, c4]] w fun e w' => ∃ d0 d1 d2 d3 d4, e = .returned (.agg #[d0, d1, d2, d3, d4]) ∧ VP w' (Fresh w w') v d0 d1 d2 d3 d4 ∧ Below w.heap.size w w'
def CopyM (m : VM) : Prop := ∀ (A : Option Addr) (c : Nat) (w : World) (B : Nat), B ≤ w.heap.size → m.len ≤ 9223372036854775807 → MAt w B m A 0 →
  Calls Tryd.prog 20 #[.slice A m.len c] w fun e w' => ∃ A' c', e = .returned (.slice A' m.len c') ∧ MP w' (Fresh w w') m A' 0 ∧ Below w.heap.size w w'
/-- The row that is being built. -/
def RT (base : Nat) (W : World) (V : Value) (q : Nat) (l : VL) : Prop := ∃ xs P, W.ownsRow base 25 5 V q xs ∧ ValsL W P l xs ∧ ∀ b, P b → base ≤ b ∧ b < W.heap.size ∧ V.ownBlock ≠ some b
def RM (base : Nat) (W : World) (V : Value) (q : Nat) (l : VM) : Prop := ∃ xs P, W.ownsRow base 39 6 V q xs ∧ ValsM W P l xs ∧ ∀ b, P b → base ≤ b ∧ b < W.heap.size ∧ V.ownBlock ≠ some b
theorem RT.start (base : Nat) (W : World) : RT base W (.slice none 0 0) 0 .nil := ⟨[], fun _ => False, World.ownsRow_nil _ _ _ _, rfl, fun _ h => h.elim⟩
theorem RM.start (base : Nat) (W : World) : RM base W (.slice none 0 0) 0 .nil := ⟨[], fun _ => False, World.ownsRow_nil _ _ _ _, rfl, fun _ h => h.elim⟩
theorem own_low {B : Nat} {e : TypeId} {k : Nat} {v : Value} {n : Nat} {xs : List Value} {w w' : World} (h : w.ownsRow B e k v n xs) (hb : Below w.heap.size w w') : w'.ownsRow B e k v n xs :=
  h.kept (row := none) ⟨hb.os, hb.tape, hb.output, hb.size, fun j hj _ => hb.block j hj⟩ (Classical.em _)
/-- What the step of an append keeps, block by block. -/
theorem step_blocks {wr w2 w4 : World} {V : Value} {g : Nat} {o : Obj} {P : Nat → Prop} {base : Nat} (hbase : base ≤ wr.heap.size) (hV : ∀ k, V.ownBlock = some k → k < wr.heap.size) (hP : ∀ b, P b → base ≤ b ∧ b < wr.heap.size ∧ V.ownBlock ≠ some b)
    (hb : Below wr.heap.size wr w2) (hg : (w2.alloc o).grownBy w4 V.ownBlock) (hat : V.ownBlock = some g ∨ g = (w2.alloc o).heap.size) :
    (∀ b, P b → (P b ∨ Fresh wr w2 b) ∧ w4.heap[b]? = wr.heap[b]?) ∧ (∀ b, Fresh wr w2 b → (P b ∨ Fresh wr w2 b) ∧ w4.heap[b]? = w2.heap[b]?) ∧ (∀ b, P b ∨ Fresh wr w2 b → base ≤ b ∧ b < w4.heap.size ∧ some g ≠ some b) := by
  have hs2 := hb.size
  have hs4 := hg.size
  have ha : (w2.alloc o).heap.size = w2.heap.size + 1 := by simp
  have hn : ∀ b, Fresh wr w2 b → V.ownBlock ≠ some b := fun b h e => by have := hV b e; have := h.1; omega
  refine ⟨fun b h => ⟨.inl h, ?_⟩, fun b h => ⟨.inr h, ?_⟩, fun b h => ?_⟩
  · obtain ⟨_, h1, h2⟩ := hP b h
    rw [hg.block b (by omega) (fun e => h2 e.symm), Below.heap_alloc _ _ _ (by omega), hb.block b h1]
  · have h1 := h.2
    rw [hg.block b (by omega) (fun e => hn b h e.symm), Below.heap_alloc _ _ _ h1]
  · have hlt : base ≤ b ∧ b < w2.heap.size ∧ V.ownBlock ≠ some b := by
      rcases h with h | h
      · obtain ⟨h0, h1, h2⟩ := hP b h
        exact ⟨h0, by omega, h2⟩
      · exact ⟨Nat.le_trans hbase h.1, h.2, hn b h⟩
    refine ⟨hlt.1, by omega, fun e => ?_⟩
    rcases hat with hat | hat
    · exact hlt.2.2 (hat.trans e)
    · have : g = b := by injection e
      omega
theorem RT.next {base q cap g : Nat} {wr w2 w4 : World} {V : Value} {l : VL} {v : VT} {o : Obj} {xs : List Value} {P : Nat → Prop} {d0 d1 d2 d3 d4 : Value} (hbase : base ≤ wr.heap.size) (hown : wr.ownsRow base 25 5 V q xs) (hv : ValsL wr P l xs) (hP : ∀ b, P b → base ≤ b ∧ b < wr.heap.size ∧ V.ownBlock ≠ some b)
    (hb : Below wr.heap.size wr w2) (hd : VP w2 (Fresh wr w2) v d0 d1 d2 d3 d4) (hown4 : w4.ownsRow base 25 5 (.slice (some ⟨g, 0, none⟩) (q + 1) cap) (q + 1) (xs ++ [d0, d1, d2, d3, d4])) (hg : (w2.alloc o).grownBy w4 V.ownBlock) (hat : V.ownBlock = some g ∨ g = (w2.alloc o).heap.size) :
    RT base w4 (.slice (some ⟨g, 0, none⟩) (q + 1) cap) (q + 1) (l.snoc v) := by
  obtain ⟨h1, h2, h3⟩ := step_blocks hbase (fun k hk => (hown.lt k hk).2) hP hb hg hat
  exact ⟨_, fun b => P b ∨ Fresh wr w2 b, hown4, ValsL.snoc (VP.keep h2 _ _ _ _ _ _ hd) (hv.keep h1), h3⟩
theorem RM.next {base q cap g : Nat} {wr w2 w4 : World} {V : Value} {l : VM} {nm : ByteArray} {v : VT} {o : Obj} {xs : List Value} {P : Nat → Prop} {d0 d1 d2 d3 d4 : Value} (hbase : base ≤ wr.heap.size) (hown : wr.ownsRow base 39 6 V q xs) (hv : ValsM wr P l xs) (hP : ∀ b, P b → base ≤ b ∧ b < wr.heap.size ∧ V.ownBlock ≠ some b) (hnm : nm.size ≤ 9223372036854775807)
    (hb : Below wr.heap.size wr w2) (hd : VP w2 (Fresh wr w2) v d0 d1 d2 d3 d4) (hown4 : w4.ownsRow base 39 6 (.slice (some ⟨g, 0, none⟩) (q + 1) cap) (q + 1) (xs ++ [.string nm, d0, d1, d2, d3, d4])) (hg : (w2.alloc o).grownBy w4 V.ownBlock) (hat : V.ownBlock = some g ∨ g = (w2.alloc o).heap.size) :
    RM base w4 (.slice (some ⟨g, 0, none⟩) (q + 1) cap) (q + 1) (l.snoc nm v) := by
  obtain ⟨h1, h2, h3⟩ := step_blocks hbase (fun k hk => (hown.lt k hk).2) hP hb hg hat
  exact ⟨_, fun b => P b ∨ Fresh wr w2 b, hown4, ValsM.snoc hnm (VP.keep h2 _ _ _ _ _ _ hd) (hv.keep h1), h3⟩
theorem shape_own {w : World} {base sz : Nat} {e : TypeId} {v : Value} {n : Nat} {xs : List Value} (h : w.ownsRow base e sz v n xs) : ∃ A cap, v = .slice A n cap := by
  rcases h.2 with ⟨hv, hn⟩ | ⟨g, cap, cur, hv, _⟩
  · exact ⟨none, 0, by rw [hv, hn]⟩
  · exact ⟨_, _, hv⟩
theorem five_new (w : World) (a0 a1 a2 a3 a4 : Value) (t : TypeId) {n : Nat} (hn : n = w.heap.size) : ∀ (j : Nat) u, [a0, a1, a2, a3, a4][j]? = some u → (w.alloc (.cells #[a0, a1, a2, a3, a4] t)).cell? ((⟨n, 0, none⟩ : Addr).add j) = some u := by
  subst hn
  intro j u hu
  rw [add_at, Nat.zero_add]
  match j, hu with
  | 0, hu => cases hu; rw [World.cell?_alloc_at _ _ _ _ rfl]; rfl
  | 1, hu => cases hu; rw [World.cell?_alloc_at _ _ _ _ rfl]; rfl
  | 2, hu => cases hu; rw [World.cell?_alloc_at _ _ _ _ rfl]; rfl
  | 3, hu => cases hu; rw [World.cell?_alloc_at _ _ _ _ rfl]; rfl
  | 4, hu => cases hu; rw [World.cell?_alloc_at _ _ _ _ rfl]; rfl
theorem six_new (w : World) (a a0 a1 a2 a3 a4 : Value) (t : TypeId) {n : Nat} (hn : n = w.heap.size) : ∀ (j : Nat) u, [a, a0, a1, a2, a3, a4][j]? = some u → (w.alloc (.cells #[a, a0, a1, a2, a3, a4] t)).cell? ((⟨n, 0, none⟩ : Addr).add j) = some u := by
  subst hn
  intro j u hu
  rw [add_at, Nat.zero_add]
  match j, hu with
  | 0, hu => cases hu; rw [World.cell?_alloc_at _ _ _ _ rfl]; rfl
  | 1, hu => cases hu; rw [World.cell?_alloc_at _ _ _ _ rfl]; rfl
  | 2, hu => cases hu; rw [World.cell?_alloc_at _ _ _ _ rfl]; rfl
  | 3, hu => cases hu; rw [World.cell?_alloc_at _ _ _ _ rfl]; rfl
  | 4, hu => cases hu; rw [World.cell?_alloc_at _ _ _ _ rfl]; rfl
  | 5, hu => cases hu; rw [World.cell?_alloc_at _ _ _ _ rfl]; rfl
end Go.Proofs.YtnmidlbhkjcimaaDoor
/- A value that comes in, opened with all that is known of it: it lies in memory that was there, its numbers are of 64 bits, its bulk bounds its size, the reach bounds its lists. -/
namespace Go.Proofs.YtnmidlbhkjcimaaDoor
open Go.ChangeShapes Go.WideShapes Go.ChangeAt Go.RowKit

theorem weights_all5 {H : Type} {P : Program} {e : TypeId} {d : DataW H} {m : Nat} : ∀ {l : List (DataW H)}, d ∈ l → m ∈ d.weights P e → m ∈ DataW.weightsAll P e l
  | [], h, _ => by simp at h
  | x :: r, h, hm => by
    rw [DataW.weightsAll]
    rcases List.mem_cons.1 h with rfl | h
    · exact List.mem_append_left _ hm
    · exact List.mem_append_right _ (weights_all5 h hm)
def OpenedV {H : Type} (W : World) (cs : List Value) (d : DataW H) : Prop := ∃ v c0 c1 c2 c3 c4, cs = [c0, c1, c2, c3, c4] ∧ VAt W W.heap.size v c0 c1 c2 c3 c4 ∧ RngV v ∧ sizeV v ≤ Rows.uptoBulk d ∧ ((∀ m ∈ d.weights Tryd.prog 25, m ≤ reachBytes) → SlimV v)
def OpenedM {H : Type} (W : World) (cs : List Value) (d : DataW H) : Prop := ∃ nm v c0 c1 c2 c3 c4, cs = [.string nm, c0, c1, c2, c3, c4] ∧ nm.size ≤ 9223372036854775807 ∧ VAt W W.heap.size v c0 c1 c2 c3 c4 ∧ RngV v ∧ nm.size + sizeV v ≤ Rows.uptoBulk d ∧ ((∀ m ∈ d.weights Tryd.prog 39, m ≤ reachBytes) → SlimV v)
theorem cells5 {W : World} {b o i : Nat} {c0 c1 c2 c3 c4 : Value} {n : Nat} (h : W.cells? 0 ⟨b, o + i, none⟩ n = some [c0, c1, c2, c3, c4]) : b < W.heap.size ∧ Five W b (o + i) c0 c1 c2 c3 c4 := by
  obtain ⟨_, hl, hat⟩ := World.cells?_some h
  simp only [List.length_cons, List.length_nil] at hl
  simp only [add_at] at hat
  have g0 := hat 0 (by omega)
  have g1 := hat 1 (by omega)
  have g2 := hat 2 (by omega)
  have g3 := hat 3 (by omega)
  have g4 := hat 4 (by omega)
  exact ⟨World.block_lt_of_cell? W _ (g0.trans rfl), g0.trans rfl, g1.trans rfl, g2.trans rfl, g3.trans rfl, g4.trans rfl⟩
theorem cells6 {W : World} {b o i : Nat} {c c0 c1 c2 c3 c4 : Value} {n : Nat} (h : W.cells? 0 ⟨b, o + i, none⟩ n = some [c, c0, c1, c2, c3, c4]) : b < W.heap.size ∧ W.cell? ⟨b, o + i, none⟩ = some c ∧ Five W b (o + i + 1) c0 c1 c2 c3 c4 := by
  obtain ⟨_, hl, hat⟩ := World.cells?_some h
  simp only [List.length_cons, List.length_nil] at hl
  simp only [add_at] at hat
  have g := hat 0 (by omega)
  have g0 := hat 1 (by omega)
  have g1 := hat 2 (by omega)
  have g2 := hat 3 (by omega)
  have g3 := hat 4 (by omega)
  have g4 := hat 5 (by omega)
  exact ⟨World.block_lt_of_cell? W _ (g.trans rfl), g.trans rfl, g0.trans rfl, g1.trans rfl, g2.trans rfl, g3.trans rfl, g4.trans rfl⟩
/-- A row of values out of its elements. -/
theorem list_opened {H : Type} {W : World} {b o : Nat} {T : List Value → Option (DataW H × List MemPlace)} (IH : ∀ cs x, T cs = some x → OpenedV W cs x.1) : ∀ (elems : List (DataW H × List MemPlace)) (j : Nat),
    (∀ i, i < elems.length → (W.cells? 0 ⟨b, o + (j + i) * 5, none⟩ 5).bind T = elems[i]?) →
    ∃ l : VL, l.len = elems.length ∧ LAt W W.heap.size l (some ⟨b, o, none⟩) j ∧ RngL l ∧ sizeL l ≤ Rows.uptoBulkAll (elems.map (·.1)) ∧ ((∀ m ∈ DataW.weightsAll Tryd.prog 25 (elems.map (·.1)), m ≤ reachBytes) → SlimL l)
  | [], j, _ => ⟨.nil, rfl, by unfold LAt; trivial, by unfold RngL; trivial, by rw [sizeL]; exact Nat.zero_le _, fun _ => by unfold SlimL; trivial⟩
  | x :: elems, j, h => by
    have h0 := h 0 (by simp)
    rw [Nat.add_zero] at h0
    obtain ⟨cs, hc, ht⟩ := Option.bind_eq_some_iff.1 (h0.trans rfl)
    obtain ⟨v, c0, c1, c2, c3, c4, rfl, hv, hr, hs, hw⟩ := IH cs x ht
    obtain ⟨hlt, hF⟩ := cells5 hc
    obtain ⟨l, h1, h2, h3, h4, h5⟩ := list_opened IH elems (j + 1) (fun i hi => by
      have := h (i + 1) (by simp; omega)
      rw [show j + (i + 1) = j + 1 + i by omega] at this
      simpa using this)
    refine ⟨.cons v l, by rw [VL.len, h1, List.length_cons], by unfold LAt; exact ⟨⟨b, o, c0, c1, c2, c3, c4, rfl, hlt, hF, hv⟩, h2⟩, by unfold RngL; exact ⟨hr, h3⟩, ?_, fun hm => ?_⟩
    · rw [sizeL, List.map_cons, Rows.uptoBulkAll]; omega
    · rw [List.map_cons, DataW.weightsAll] at hm
      unfold SlimL
      exact ⟨hw (fun m h => hm m (List.mem_append_left _ h)), h5 (fun m h => hm m (List.mem_append_right _ h))⟩
theorem mems_opened {H : Type} {W : World} {b o : Nat} {T : List Value → Option (DataW H × List MemPlace)} (IH : ∀ cs x, T cs = some x → OpenedM W cs x.1) : ∀ (elems : List (DataW H × List MemPlace)) (j : Nat),
    (∀ i, i < elems.length → (W.cells? 0 ⟨b, o + (j + i) * 6, none⟩ 6).bind T = elems[i]?) →
    ∃ l : VM, l.len = elems.length ∧ MAt W W.heap.size l (some ⟨b, o, none⟩) j ∧ RngM l ∧ sizeM l ≤ Rows.uptoBulkAll (elems.map (·.1)) ∧ ((∀ m ∈ DataW.weightsAll Tryd.prog 39 (elems.map (·.1)), m ≤ reachBytes) → SlimM l)
  | [], j, _ => ⟨.nil, rfl, by unfold MAt; trivial, by unfold RngM; trivial, by rw [sizeM]; exact Nat.zero_le _, fun _ => by unfold SlimM; trivial⟩
  | x :: elems, j, h => by
    have h0 := h 0 (by simp)
    rw [Nat.add_zero] at h0
    obtain ⟨cs, hc, ht⟩ := Option.bind_eq_some_iff.1 (h0.trans rfl)
    obtain ⟨nm, v, c0, c1, c2, c3, c4, rfl, hn, hv, hr, hs, hw⟩ := IH cs x ht
    obtain ⟨hlt, hN, hF⟩ := cells6 hc
    obtain ⟨l, h1, h2, h3, h4, h5⟩ := mems_opened IH elems (j + 1) (fun i hi => by
      have := h (i + 1) (by simp; omega)
      rw [show j + (i + 1) = j + 1 + i by omega] at this
      simpa using this)
    refine ⟨.cons nm v l, by rw [VM.len, h1, List.length_cons], by unfold MAt; exact ⟨⟨b, o, c0, c1, c2, c3, c4, rfl, hlt, hN, hn, hF, hv⟩, h2⟩, by unfold RngM; exact ⟨hr, h3⟩, ?_, fun hm => ?_⟩
    · rw [sizeM, List.map_cons, Rows.uptoBulkAll]; omega
    · rw [List.map_cons, DataW.weightsAll] at hm
      unfold SlimM
      exact ⟨hw (fun m h => hm m (List.mem_append_left _ h)), h5 (fun m h => hm m (List.mem_append_right _ h))⟩
theorem bytesV : Tryd.prog.bytesOf 25 = 80 := by kernel_rfl
theorem bytesM : Tryd.prog.bytesOf 39 = 96 := by kernel_rfl
theorem spot_none {W : World} {a : Addr} {n : Nat} {cs : List Value} (hn : 0 < n) (h : W.cells? 0 a n = some cs) : a.spot = none := by
  obtain ⟨_, hl, hat⟩ := World.cells?_some h
  have h2 := hat 0 (by omega)
  rw [List.getElem?_eq_getElem (by omega)] at h2
  have := World.cell?_spot h2
  obtain ⟨b, o, spot⟩ := a
  simpa [Addr.add] using this
/-- A slice of values that came in. -/
theorem slice_opened {H : Type} {enc : TypeId × Value → H} {W : World} {fuel : Nat} {cv : Value} {x : DataW H × List MemPlace} (IH : ∀ n, n < fuel → ∀ cs x, DataW.trod enc Tryd.prog W 0 (fun _ => true) true n 25 cs = some x → OpenedV W cs x.1)
    (h : DataW.trod enc Tryd.prog W 0 (fun _ => true) true fuel 22 [cv] = some x) : ∃ (l : VL) (A : Option Addr) (c : Nat), cv = .slice A l.len c ∧ l.len ≤ 9223372036854775807 ∧ LAt W W.heap.size l A 0 ∧ RngL l ∧ sizeL l + 1 ≤ Rows.uptoBulk x.1 ∧ ((∀ m ∈ x.1.weights Tryd.prog 22, m ≤ reachBytes) → l.len * 80 ≤ 140737488355328 ∧ SlimL l) := by
  rcases DataW.trod_slice Tryd.underlying22 h with ⟨hc, rfl⟩ | ⟨a, len, cap, elems, rest, n', hn', hc, rfl, _, hlc, hcm, hel, hat, _⟩
  · simp only [List.cons.injEq, and_true] at hc
    exact ⟨.nil, none, 0, hc, Nat.zero_le _, by unfold LAt; trivial, by unfold RngL; trivial, by simp [sizeL, Rows.uptoBulk], fun _ => ⟨by simp [VL.len], by unfold SlimL; trivial⟩⟩
  · simp only [List.cons.injEq, and_true] at hc
    subst hel
    rw [cellsV] at hat
    obtain ⟨b, o, spot⟩ := a
    have hsp : 0 < elems.length → spot = none := fun hp => by
      have h1 := hat 0 hp
      rw [List.getElem?_eq_getElem hp] at h1
      obtain ⟨cs', hc', _⟩ := Option.bind_eq_some_iff.1 h1
      exact spot_none (by omega) hc'
    rcases Nat.eq_zero_or_pos elems.length with hz | hz
    · have he : elems = [] := List.eq_nil_of_length_eq_zero hz
      subst he
      exact ⟨.nil, _, cap, hc, Nat.zero_le _, by unfold LAt; trivial, by unfold RngL; trivial, by simp only [sizeL, Rows.uptoBulk]; omega, fun _ => ⟨by simp [VL.len], by unfold SlimL; trivial⟩⟩
    · obtain rfl := hsp hz
      obtain ⟨l, h1, h2, h3, h4, h5⟩ := list_opened (T := DataW.trod enc Tryd.prog W 0 (fun _ => true) true n' 25) (IH n' (by omega)) elems 0 (fun i hi => by
        have := hat i hi
        rwa [add_at, show i * 5 = (0 + i) * 5 by omega] at this)
      refine ⟨l, _, cap, by rw [hc, h1], by rw [h1]; exact Nat.le_trans hlc hcm, h2, h3, ?_, fun hm => ?_⟩
      · simp only [Rows.uptoBulk]; omega
      · simp only [DataW.weights, Tryd.underlying22] at hm
        refine ⟨?_, h5 (fun m h => hm m (List.mem_cons.2 (.inr (List.mem_append.2 (.inl h)))))⟩
        have := hm _ (List.mem_cons.2 (.inl rfl))
        simp only [List.length_map, bytesV, reachBytes] at this
        rw [h1]; omega
theorem mslice_opened {H : Type} {enc : TypeId × Value → H} {W : World} {fuel : Nat} {cv : Value} {x : DataW H × List MemPlace} (IH : ∀ n, n < fuel → ∀ cs x, DataW.trod enc Tryd.prog W 0 (fun _ => true) true n 25 cs = some x → OpenedV W cs x.1)
    (h : DataW.trod enc Tryd.prog W 0 (fun _ => true) true fuel 23 [cv] = some x) : ∃ (l : VM) (A : Option Addr) (c : Nat), cv = .slice A l.len c ∧ l.len ≤ 9223372036854775807 ∧ MAt W W.heap.size l A 0 ∧ RngM l ∧ sizeM l + 1 ≤ Rows.uptoBulk x.1 ∧ ((∀ m ∈ x.1.weights Tryd.prog 23, m ≤ reachBytes) → l.len * 96 ≤ 140737488355328 ∧ SlimM l) := by
  rcases DataW.trod_slice Tryd.underlying23 h with ⟨hc, rfl⟩ | ⟨a, len, cap, elems, rest, n', hn', hc, rfl, _, hlc, hcm, hel, hat, _⟩
  · simp only [List.cons.injEq, and_true] at hc
    exact ⟨.nil, none, 0, hc, Nat.zero_le _, by unfold MAt; trivial, by unfold RngM; trivial, by simp [sizeM, Rows.uptoBulk], fun _ => ⟨by simp [VM.len], by unfold SlimM; trivial⟩⟩
  · simp only [List.cons.injEq, and_true] at hc
    subst hel
    rw [cellsM] at hat
    obtain ⟨b, o, spot⟩ := a
    have hsp : 0 < elems.length → spot = none := fun hp => by
      have h1 := hat 0 hp
      rw [List.getElem?_eq_getElem hp] at h1
      obtain ⟨cs', hc', _⟩ := Option.bind_eq_some_iff.1 h1
      exact spot_none (by omega) hc'
    have IHM : ∀ cs x, DataW.trod enc Tryd.prog W 0 (fun _ => true) true n' 39 cs = some x → OpenedM W cs x.1 := by
      intro cs x ht
      obtain ⟨ys, n2, hn2, rfl, hl2, hyl, hf2⟩ := DataW.trod_struct Tryd.underlying39 ht
      rw [cellsM] at hl2
      obtain ⟨d, d0, d1, d2, d3, d4, rfl⟩ := six_list hl2
      have p0 : DataW.trod enc Tryd.prog W 0 (fun _ => true) true n2 9 [d] = ys[0]? := by have h' : DataW.trod enc Tryd.prog W 0 (fun _ => true) true n2 9 (([d, d0, d1, d2, d3, d4].drop 0).take (Tryd.prog.cellsOf 9)) = ys[0]? := hf2 0 _ rfl; rw [cellsS] at h'; exact h'
      have p1 : DataW.trod enc Tryd.prog W 0 (fun _ => true) true n2 25 [d0, d1, d2, d3, d4] = ys[1]? := by have h' : DataW.trod enc Tryd.prog W 0 (fun _ => true) true n2 25 (([d, d0, d1, d2, d3, d4].drop 1).take (Tryd.prog.cellsOf 25)) = ys[1]? := hf2 1 _ rfl; rw [cellsV] at h'; exact h'
      match ys, hyl with
      | [z0, z1], _ =>
        obtain ⟨t, e2, hz0, htz⟩ := DataW.trod_string Tryd.underlying9 (p0.trans rfl)
        obtain ⟨v, c0, c1, c2, c3, c4, hcs, hv, hr, hs, hw⟩ := IH n2 (by omega) _ z1 (p1.trans rfl)
        simp only [List.cons.injEq, and_true] at e2 hcs
        obtain ⟨rfl, rfl, rfl, rfl, rfl⟩ := hcs
        subst e2
        refine ⟨t, v, _, _, _, _, _, rfl, htz, hv, hr, ?_, fun hm => hw (fun m h => hm m ?_)⟩
        · simp only [List.map_cons, List.map_nil, Rows.uptoBulk, Rows.uptoBulkAll, hz0]
          have : t.data.toList.length = t.size := Array.length_toList
          omega
        · simp only [List.map_cons, List.map_nil, DataW.weights, Tryd.underlying39, DataW.weightsEach]
          exact List.mem_append_right _ (List.mem_append_left _ h)
    rcases Nat.eq_zero_or_pos elems.length with hz | hz
    · have he : elems = [] := List.eq_nil_of_length_eq_zero hz
      subst he
      exact ⟨.nil, _, cap, hc, Nat.zero_le _, by unfold MAt; trivial, by unfold RngM; trivial, by simp only [sizeM, Rows.uptoBulk]; omega, fun _ => ⟨by simp [VM.len], by unfold SlimM; trivial⟩⟩
    · obtain rfl := hsp hz
      obtain ⟨l, h1, h2, h3, h4, h5⟩ := mems_opened (T := DataW.trod enc Tryd.prog W 0 (fun _ => true) true n' 39) IHM elems 0 (fun i hi => by
        have := hat i hi
        rwa [add_at, show i * 6 = (0 + i) * 6 by omega] at this)
      refine ⟨l, _, cap, by rw [hc, h1], by rw [h1]; exact Nat.le_trans hlc hcm, h2, h3, ?_, fun hm => ?_⟩
      · simp only [Rows.uptoBulk]; omega
      · simp only [DataW.weights, Tryd.underlying23] at hm
        refine ⟨?_, h5 (fun m h => hm m (List.mem_cons.2 (.inr (List.mem_append.2 (.inl h)))))⟩
        have := hm _ (List.mem_cons.2 (.inl rfl))
        simp only [List.length_map, bytesM, reachBytes] at this
        rw [h1]; omega
set_option maxRecDepth 100000 in
theorem value_opened {H : Type} {enc : TypeId × Value → H} {W : World} : ∀ (fuel : Nat) (cs : List Value) (x : DataW H × List MemPlace), DataW.trod enc Tryd.prog W 0 (fun _ => true) true fuel 25 cs = some x → OpenedV W cs x.1 := by
  intro fuel
  induction fuel using Nat.strongRecOn with
  | ind fuel ih =>
    intro cs x h
    obtain ⟨xs, n, rfl, rfl, hl, hxl, hf⟩ := DataW.trod_struct Tryd.underlying25 h
    rw [cellsV] at hl
    obtain ⟨c0, c1, c2, c3, c4, rfl⟩ := five_list hl
    have f0 : DataW.trod enc Tryd.prog W 0 (fun _ => true) true n 3 [c0] = xs[0]? := by have h' : DataW.trod enc Tryd.prog W 0 (fun _ => true) true n 3 (([c0, c1, c2, c3, c4].drop 0).take (Tryd.prog.cellsOf 3)) = xs[0]? := hf 0 _ rfl; rw [cellsI] at h'; exact h'
    have f1 : DataW.trod enc Tryd.prog W 0 (fun _ => true) true n 2 [c1] = xs[1]? := by have h' : DataW.trod enc Tryd.prog W 0 (fun _ => true) true n 2 (([c0, c1, c2, c3, c4].drop 1).take (Tryd.prog.cellsOf 2)) = xs[1]? := hf 1 _ rfl; rw [cellsI64] at h'; exact h'
    have f2 : DataW.trod enc Tryd.prog W 0 (fun _ => true) true n 9 [c2] = xs[2]? := by have h' : DataW.trod enc Tryd.prog W 0 (fun _ => true) true n 9 (([c0, c1, c2, c3, c4].drop 2).take (Tryd.prog.cellsOf 9)) = xs[2]? := hf 2 _ rfl; rw [cellsS] at h'; exact h'
    have f3 : DataW.trod enc Tryd.prog W 0 (fun _ => true) true n 22 [c3] = xs[3]? := by have h' : DataW.trod enc Tryd.prog W 0 (fun _ => true) true n 22 (([c0, c1, c2, c3, c4].drop 3).take (Tryd.prog.cellsOf 22)) = xs[3]? := hf 3 _ rfl; rw [cellsLV] at h'; exact h'
    have f4 : DataW.trod enc Tryd.prog W 0 (fun _ => true) true n 23 [c4] = xs[4]? := by have h' : DataW.trod enc Tryd.prog W 0 (fun _ => true) true n 23 (([c0, c1, c2, c3, c4].drop 4).take (Tryd.prog.cellsOf 23)) = xs[4]? := hf 4 _ rfl; rw [cellsLM] at h'; exact h'
    match xs, hxl with
    | [y0, y1, y2, y3, y4], _ =>
      obtain ⟨k, e0, hy0, _⟩ := DataW.trod_int Tryd.underlying3 (f0.trans rfl)
      obtain ⟨m, e1, hy1, wf⟩ := DataW.trod_int Tryd.underlying2 (f1.trans rfl)
      obtain ⟨t, e2, hy2, ht⟩ := DataW.trod_string Tryd.underlying9 (f2.trans rfl)
      obtain ⟨l, A, c, h3, g3, h4, r3, s3, w3⟩ := slice_opened (fun n' hn' => ih n' (by omega)) (f3.trans rfl)
      obtain ⟨l', A', c', h5, g5, h6, r5, s5, w5⟩ := mslice_opened (fun n' hn' => ih n' (by omega)) (f4.trans rfl)
      simp only [List.cons.injEq, and_true] at e0 e1 e2
      subst e0 e1 e2 h3 h5
      refine ⟨.mk k m t l l', _, _, _, _, _, rfl, by unfold VAt; exact ⟨rfl, rfl, rfl, ht, ⟨A, c, rfl, g3, h4⟩, A', c', rfl, g5, h6⟩, ?_, ?_, fun hm => ?_⟩
      · unfold RngV
        refine ⟨?_, r3, r5⟩
        have hw := wf
        simp only [Lit.wf] at hw
        have hw2 : (-9223372036854775808 ≤ m) ∧ m ≤ 9223372036854775807 := by
          simpa [Bool.and_eq_true, IntKind.min, IntKind.max, IntKind.signed, IntKind.bits] using hw
        exact hw2
      · simp only [List.map_cons, List.map_nil, Rows.uptoBulk, Rows.uptoBulkAll, hy0, hy1, hy2]
        have : t.data.toList.length = t.size := Array.length_toList
        rw [sizeV]
        omega
      · simp only [List.map_cons, List.map_nil, DataW.weights, Tryd.underlying25, DataW.weightsEach, hy0, hy1, hy2] at hm
        unfold SlimV
        have a3 := w3 (fun m h => hm m (by simp only [List.mem_append]; simp [h]))
        have a5 := w5 (fun m h => hm m (by simp only [List.mem_append]; simp [h]))
        exact ⟨a3.1, a5.1, a3.2, a5.2⟩
end Go.Proofs.YtnmidlbhkjcimaaDoor
