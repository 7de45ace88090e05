/- The walk of seineref1.Same, and both together. -/
import Derived.Test.YtgihnhdknphhpaaVSame
namespace Go.Proofs.Ytgihnhdknphhpaa
open Go.RowKit

/-- The two boxes, what of them the loop and the end read. -/
def KS (w : World) (a3 a4 b3 b4 : Value) (W : World) : Prop := W.cell? ⟨w.heap.size, 3, none⟩ = some a3 ∧ W.cell? ⟨w.heap.size, 4, none⟩ = some a4 ∧ W.cell? ⟨w.heap.size + 1, 3, none⟩ = some b3 ∧ W.cell? ⟨w.heap.size + 1, 4, none⟩ = some b4 ∧ Below w.heap.size w W ∧ w.heap.size + 1 < W.heap.size
theorem KS.next {w W W' : World} {a3 a4 b3 b4 : Value} (h : KS w a3 a4 b3 b4 W) (hb : Below W.heap.size W W') : KS w a3 a4 b3 b4 W' := by
  obtain ⟨h1, h2, h3, h4, hB, hs⟩ := h
  have hs0 : w.heap.size < W.heap.size := by omega
  exact ⟨(hb.cell (p := ⟨_, _, none⟩) hs0).trans h1, (hb.cell (p := ⟨_, _, none⟩) hs0).trans h2, (hb.cell (p := ⟨_, _, none⟩) hs).trans h3, (hb.cell (p := ⟨_, _, none⟩) hs).trans h4, hB.trans (hb.mono hB.size), Nat.lt_of_lt_of_le hs hb.size⟩
theorem KS.start (w : World) (c0 c1 c2 c3 c4 d0 d1 d2 d3 d4 : Value) (t : TypeId) : KS w c3 c4 d3 d4 ((w.alloc (.cells #[c0, c1, c2, c3, c4] t)).alloc (.cells #[d0, d1, d2, d3, d4] t)) := by
  have k0 : ((w.alloc (.cells #[c0, c1, c2, c3, c4] t)).alloc (.cells #[d0, d1, d2, d3, d4] t)).heap[w.heap.size]? = some (.cells #[c0, c1, c2, c3, c4] t) := by
    rw [Below.heap_alloc _ _ _ (by simp)]
    show (w.heap.push _)[w.heap.size]? = _; simp
  have k1 : ((w.alloc (.cells #[c0, c1, c2, c3, c4] t)).alloc (.cells #[d0, d1, d2, d3, d4] t)).heap[w.heap.size + 1]? = some (.cells #[d0, d1, d2, d3, d4] t) := by
    show ((w.heap.push _).push _)[w.heap.size + 1]? = _
    rw [Array.getElem?_push, if_pos (by simp)]
  refine ⟨?_, ?_, ?_, ?_, ((Below.refl _ _).alloc (Nat.le_refl _) _).alloc (by simp) _, by simp⟩
  all_goals (simp only [World.cell?]; first | (rw [k0]; rfl) | (rw [k1]; rfl))
theorem KS.below {w W : World} {a3 a4 b3 b4 : Value} (h : KS w a3 a4 b3 b4 W) : Below w.heap.size w W := h.2.2.2.2.1

/-- Two elements at hand. -/
def KL (w : World) (a3 a4 b3 b4 : Value) (b O : Nat) (d0 d1 d2 d3 d4 : Value) (b' O' : Nat) (f0 f1 f2 f3 f4 : Value) (W : World) : Prop :=
  Five W b O d0 d1 d2 d3 d4 ∧ Five W b' O' f0 f1 f2 f3 f4 ∧ KS w a3 a4 b3 b4 W
theorem KL.next {w W W' : World} {a3 a4 b3 b4 : Value} {b O : Nat} {d0 d1 d2 d3 d4 : Value} {b' O' : Nat} {f0 f1 f2 f3 f4 : Value} (h : KL w a3 a4 b3 b4 b O d0 d1 d2 d3 d4 b' O' f0 f1 f2 f3 f4 W) (hl : b < w.heap.size) (hl' : b' < w.heap.size) (hb : Below W.heap.size W W') : KL w a3 a4 b3 b4 b O d0 d1 d2 d3 d4 b' O' f0 f1 f2 f3 f4 W' := by
  obtain ⟨h2, h4, hK⟩ := h
  have g := Nat.lt_of_lt_of_le hl hK.below.size
  have g' := Nat.lt_of_lt_of_le hl' hK.below.size
  exact ⟨h2.below hb g, h4.below hb g', hK.next hb⟩
theorem KL.written {w W : World} {a3 a4 b3 b4 : Value} {b O : Nat} {d0 d1 d2 d3 d4 : Value} {b' O' : Nat} {f0 f1 f2 f3 f4 : Value} (h : KL w a3 a4 b3 b4 b O d0 d1 d2 d3 d4 b' O' f0 f1 f2 f3 f4 W) :
    W.cell? ⟨b, O, none⟩ = some d0 ∧ W.cell? ⟨b, O + 1, none⟩ = some d1 ∧ W.cell? ⟨b, O + 2, none⟩ = some d2 ∧ W.cell? ⟨b, O + 3, none⟩ = some d3 ∧ W.cell? ⟨b, O + 4, none⟩ = some d4 ∧
    W.cell? ⟨b', O', none⟩ = some f0 ∧ W.cell? ⟨b', O' + 1, none⟩ = some f1 ∧ W.cell? ⟨b', O' + 2, none⟩ = some f2 ∧ W.cell? ⟨b', O' + 3, none⟩ = some f3 ∧ W.cell? ⟨b', O' + 4, none⟩ = some f4 ∧
    W.cell? ⟨w.heap.size, 3, none⟩ = some a3 ∧ W.cell? ⟨w.heap.size + 1, 3, none⟩ = some b3 ∧
    KL w a3 a4 b3 b4 b O d0 d1 d2 d3 d4 b' O' f0 f1 f2 f3 f4 W :=
  ⟨h.1.1, h.1.2.1, h.1.2.2.1, h.1.2.2.2.1, h.1.2.2.2.2, h.2.1.1, h.2.1.2.1, h.2.1.2.2.1, h.2.1.2.2.2.1, h.2.1.2.2.2.2, h.2.2.1, h.2.2.2.2.1, h⟩

set_option maxRecDepth 100000 in
set_option maxHeartbeats 8000000 in
theorem vsame_step (N : Nat) (H : ∀ u, sizeV u ≤ N → SameC u) : ∀ u, sizeV u ≤ N + 1 → SameC u := by
  intro u hu v c0 c1 c2 c3 c4 d0 d1 d2 d3 d4 w B hB h1 h2
  have HMB := Lib.hid (memb_any N H)
  have HS := Lib.hid H
  have HB0 := Lib.hid hB
  clear H hB
  obtain ⟨k, n, s, l, m⟩ := u
  obtain ⟨k', n', s', l', m'⟩ := v
  rw [sizeV] at hu
  unfold VAt at h1 h2
  obtain ⟨rfl, rfl, rfl, hs, ⟨A, c, rfl, hl, hL⟩, A2, c2', rfl, hm, hM⟩ := h1
  obtain ⟨rfl, rfl, rfl, hs', ⟨A', c', rfl, hl', hL'⟩, A2', c2'', rfl, hm', hM'⟩ := h2
  have HL := Lib.hid hL
  have HL' := Lib.hid hL'
  have HM := Lib.hid hM
  have HM' := Lib.hid hM'
  clear hL hL' hM hM'
  by_cases q0 : k = k'
  case neg =>
    have e0 : (k != k') = true := by simpa using q0
    have hno : Hid (¬ VT.mk k n s l m = .mk k' n' s' l' m') := Lib.hid (fun h => q0 (by injection h))
    clear q0
    go_enter Try.func11, Try.ntmps11
    go_wp2_with fail
    go_ret
    exact vsaid (not_if hno.out) (((Below.refl _ _).alloc (Nat.le_refl _) _).alloc (by simp) _)
  subst q0
  by_cases q1 : n = n'
  case neg =>
    have e0 : (n != n') = true := by simpa using q1
    have hno : Hid (¬ VT.mk k n s l m = .mk k n' s' l' m') := Lib.hid (fun h => q1 (by injection h))
    clear q1
    go_enter Try.func11, Try.ntmps11
    go_wp2_with fail
    go_ret
    exact vsaid (not_if hno.out) (((Below.refl _ _).alloc (Nat.le_refl _) _).alloc (by simp) _)
  subst q1
  by_cases q2 : s = s'
  case neg =>
    have hne : s.toList ≠ s'.toList := fun h => q2 (by
      rw [ByteArray.toList_eq, ByteArray.toList_eq] at h
      exact ByteArray.ext (Array.toList_inj.1 h))
    have e1 : (s.toList != s'.toList) = true := by simpa using hne
    have e1' : (s.toList == s'.toList) = false := by simpa using hne
    have hno : Hid (¬ VT.mk k n s l m = .mk k n s' l' m') := Lib.hid (fun h => q2 (by injection h))
    clear q2 hne
    go_enter Try.func11, Try.ntmps11
    go_wp2_with fail
    go_ret
    exact vsaid (not_if hno.out) (((Below.refl _ _).alloc (Nat.le_refl _) _).alloc (by simp) _)
  subst q2
  have z1 : (s.toList != s.toList) = false := by simp
  have z1' : (s.toList == s.toList) = true := by simp
  by_cases q3 : l.len = l'.len
  case neg =>
    have e0 : ((l.len : Int) != (l'.len : Int)) = true := by simp; omega
    have hno : Hid (¬ VT.mk k n s l m = .mk k n s l' m') := Lib.hid (fun h => q3 (by injection h with _ _ _ h _; rw [h]))
    clear q3
    go_enter Try.func11, Try.ntmps11
    go_wp2_with fail
    go_ret
    exact vsaid (not_if hno.out) (((Below.refl _ _).alloc (Nat.le_refl _) _).alloc (by simp) _)
  generalize hn : l.len = nn at *
  have HN := Lib.hid hn
  subst q3
  clear hn
  have e0 : ((l'.len : Int) != (l'.len : Int)) = false := by simp
  go_enter Try.func11, Try.ntmps11
  go_wp2_with fail
  go_loopg [5] l'.len (fun g i wx => ∃ q : Nat, q + g = l'.len ∧ i = .int .i64 q ∧ KS w (.slice A l'.len c) (.slice A2 m.len c2') (.slice A' l'.len c') (.slice A2' m'.len c2'') wx ∧ Aside (AgreeL l l' q))
  case atStart => exact ⟨0, by omega, rfl, KS.start _ _ _ _ _ _ _ _ _ _ _ _, vaside (fun j hj => by omega)⟩
  case round =>
    obtain ⟨q, hq, rfl, hK, HA⟩ := hrel
    have K := Lib.hid hK
    have HBB := Lib.hid hK.below
    obtain ⟨h1, h2, h3, h4, _, _⟩ := hK
    cases gk with
    | zero =>
      obtain rfl : q = l'.len := by omega
      have hE : Hid (l = l') := Lib.hid (VL.ext HN.out (by rw [HN.out]; exact HA.out))
      clear HA
      have C := fun (wx : World) (hx : Below w.heap.size w wx) => Lib.hid (HMB.out m (by omega) m' A2 A2' c2' c2'' wx B (Nat.le_trans HB0.out hx.size) hm hm' (MAt.below (hx.mono HB0.out) _ _ _ HM.out) (MAt.below (hx.mono HB0.out) _ _ _ HM'.out))
      go_wp2_with fail
      refine (C _ HBB.out).out.mono ?_
      rintro e w2 ⟨⟨b, rfl, hb⟩, hb2⟩
      have Hb := Lib.hid hb
      have Hb2 := Lib.hid (HBB.out.trans (hb2.mono HBB.out.size))
      clear hb hb2 C h1 h2 h3 h4
      go_wp2_with fail
      go_ret
      exact vsaid ⟨fun e => by rw [hE.out, Hb.out.1 e], fun e => Hb.out.2 (by injection e)⟩ Hb2.out
    | succ g =>
      have hqn : q < l'.len := by omega
      have hqn' : (q : Int) < (l'.len : Int) := by omega
      obtain ⟨x, hv⟩ := VL.get_lt (l := l) (j := q) (by rw [HN.out]; exact hqn)
      obtain ⟨y, hv'⟩ := VL.get_lt hqn
      have hvN := sizeL_get hv
      obtain ⟨b, o, d0, d1, d2, d3, d4, rfl, hblt, hF, hV⟩ := LAt.at (LAt.below (HBB.out.mono HB0.out) _ _ _ HL.out) hv
      obtain ⟨b', o', f0, f1, f2, f3, f4, rfl, hblt', hF', hV'⟩ := LAt.at (LAt.below (HBB.out.mono HB0.out) _ _ _ HL'.out) hv'
      rw [Nat.zero_add] at hF hF'
      have hE := Lib.hid hv
      have hE' := Lib.hid hv'
      have HBW : Hid (b < w.heap.size) := Lib.hid (Nat.lt_of_lt_of_le hblt HB0.out)
      have HBW' : Hid (b' < w.heap.size) := Lib.hid (Nat.lt_of_lt_of_le hblt' HB0.out)
      have hE0 : KL w (.slice (some ⟨b, o, none⟩) l'.len c) (.slice A2 m.len c2') (.slice (some ⟨b', o', none⟩) l'.len c') (.slice A2' m'.len c2'') b (o + q * 5) d0 d1 d2 d3 d4 b' (o' + q * 5) f0 f1 f2 f3 f4 wr := ⟨hF, hF', K.out⟩
      obtain ⟨g0, g1, g2, g3, g4⟩ := hF
      obtain ⟨g5, g6, g7, g8, g9⟩ := hF'
      clear hv hv'
      by_cases hvv : x = y
      · subst hvv
        have C := fun (wx : World) (hx : Below wr.heap.size wr wx) => Lib.hid ((HS.out x (by omega)).yes rfl d0 d1 d2 d3 d4 f0 f1 f2 f3 f4 wx B (Nat.le_trans HB0.out (Nat.le_trans HBB.out.size hx.size)) (VAt.below (hx.mono (Nat.le_trans HB0.out HBB.out.size)) _ _ _ _ _ _ hV) (VAt.below (hx.mono (Nat.le_trans HB0.out HBB.out.size)) _ _ _ _ _ _ hV'))
        have hnx : Hid (AgreeL l l' (q + 1)) := Lib.hid (AgreeL.next HA.out hE.out hE'.out)
        clear hV hV' HA hvN hblt hblt'
        go_wp2_with fail
        go_region_held3 (fun w' => w'.cell? ⟨b, o + q * 5, none⟩ = some d0 ∧ w'.cell? ⟨b, o + q * 5 + 1, none⟩ = some d1 ∧ w'.cell? ⟨b, o + q * 5 + 2, none⟩ = some d2 ∧ w'.cell? ⟨b, o + q * 5 + 3, none⟩ = some d3 ∧ w'.cell? ⟨b, o + q * 5 + 4, none⟩ = some d4 ∧ w'.cell? ⟨b', o' + q * 5, none⟩ = some f0 ∧ w'.cell? ⟨b', o' + q * 5 + 1, none⟩ = some f1 ∧ w'.cell? ⟨b', o' + q * 5 + 2, none⟩ = some f2 ∧ w'.cell? ⟨b', o' + q * 5 + 3, none⟩ = some f3 ∧ w'.cell? ⟨b', o' + q * 5 + 4, none⟩ = some f4 ∧ w'.cell? ⟨w.heap.size, 3, none⟩ = some (.slice (some ⟨b, o, none⟩) l'.len c) ∧ w'.cell? ⟨w.heap.size + 1, 3, none⟩ = some (.slice (some ⟨b', o', none⟩) l'.len c') ∧ KL w (.slice (some ⟨b, o, none⟩) l'.len c) (.slice A2 m.len c2') (.slice (some ⟨b', o', none⟩) l'.len c') (.slice A2' m'.len c2'') b (o + q * 5) d0 d1 d2 d3 d4 b' (o' + q * 5) f0 f1 f2 f3 f4 w')
          (first
            | exact KL.written (KL.next hE0 HBW.out HBW'.out (Below.drew (Below.refl _ _)))
            | exact KL.written ((KL.next hE0 HBW.out HBW'.out (Below.drew (Below.refl _ _))).next HBW.out HBW'.out (by assumption))
            | exact KL.written (KL.next hE0 HBW.out HBW'.out (by assumption))
            | exact KL.written (KL.next (by assumption) HBW.out HBW'.out (by assumption))
            | go_keep)
          ((first | (go_at_call 11; refine (C _ (by first | exact Below.drew (Below.refl _ _) | exact Below.refl _ _ | assumption)).out.mono ?_; rintro e w' ⟨rfl, hb⟩)))
        all_goals
          have HKM : KL w (.slice (some ⟨b, o, none⟩) l'.len c) (.slice A2 m.len c2') (.slice (some ⟨b', o', none⟩) l'.len c') (.slice A2' m'.len c2'') b (o + q * 5) d0 d1 d2 d3 d4 b' (o' + q * 5) f0 f1 f2 f3 f4 w' := And.right (And.right (And.right (And.right (And.right (And.right (And.right (And.right (And.right (And.right (And.right (And.right (by assumption))))))))))))
          have HKB := Lib.hid HKM.2.2
          clear HKM hE0 C g0 g1 g2 g3 g4 g5 g6 g7 g8 g9 h1 h2 h3 h4
          go_wp2_with fail
          go_roundg g
          case measure => omega
          case rel => exact ⟨q + 1, by omega, by go_num, HKB.out, vaside hnx.out⟩
      · have C := fun (wx : World) (hx : Below wr.heap.size wr wx) => Lib.hid ((HS.out x (by omega)).no hvv d0 d1 d2 d3 d4 f0 f1 f2 f3 f4 wx B (Nat.le_trans HB0.out (Nat.le_trans HBB.out.size hx.size)) (VAt.below (hx.mono (Nat.le_trans HB0.out HBB.out.size)) _ _ _ _ _ _ hV) (VAt.below (hx.mono (Nat.le_trans HB0.out HBB.out.size)) _ _ _ _ _ _ hV'))
        have hno : Hid (¬ VT.mk k n s l m = .mk k n s l' m') := Lib.hid (fun h => by
          injection h with _ _ _ h _
          subst h
          have := hE.out.symm.trans hE'.out
          simp only [Option.some.injEq] at this
          exact hvv this)
        clear hV hV' HA hvN hblt hblt' hvv
        go_wp2_with fail
        go_region_held3 (fun w' => w'.cell? ⟨b, o + q * 5, none⟩ = some d0 ∧ w'.cell? ⟨b, o + q * 5 + 1, none⟩ = some d1 ∧ w'.cell? ⟨b, o + q * 5 + 2, none⟩ = some d2 ∧ w'.cell? ⟨b, o + q * 5 + 3, none⟩ = some d3 ∧ w'.cell? ⟨b, o + q * 5 + 4, none⟩ = some d4 ∧ w'.cell? ⟨b', o' + q * 5, none⟩ = some f0 ∧ w'.cell? ⟨b', o' + q * 5 + 1, none⟩ = some f1 ∧ w'.cell? ⟨b', o' + q * 5 + 2, none⟩ = some f2 ∧ w'.cell? ⟨b', o' + q * 5 + 3, none⟩ = some f3 ∧ w'.cell? ⟨b', o' + q * 5 + 4, none⟩ = some f4 ∧ w'.cell? ⟨w.heap.size, 3, none⟩ = some (.slice (some ⟨b, o, none⟩) l'.len c) ∧ w'.cell? ⟨w.heap.size + 1, 3, none⟩ = some (.slice (some ⟨b', o', none⟩) l'.len c') ∧ KL w (.slice (some ⟨b, o, none⟩) l'.len c) (.slice A2 m.len c2') (.slice (some ⟨b', o', none⟩) l'.len c') (.slice A2' m'.len c2'') b (o + q * 5) d0 d1 d2 d3 d4 b' (o' + q * 5) f0 f1 f2 f3 f4 w')
          (first
            | exact KL.written (KL.next hE0 HBW.out HBW'.out (Below.drew (Below.refl _ _)))
            | exact KL.written ((KL.next hE0 HBW.out HBW'.out (Below.drew (Below.refl _ _))).next HBW.out HBW'.out (by assumption))
            | exact KL.written (KL.next hE0 HBW.out HBW'.out (by assumption))
            | exact KL.written (KL.next (by assumption) HBW.out HBW'.out (by assumption))
            | go_keep)
          ((first | (go_at_call 11; refine (C _ (by first | exact Below.drew (Below.refl _ _) | exact Below.refl _ _ | assumption)).out.mono ?_; rintro e w' ⟨rfl, hb⟩)))
        all_goals
          have HKM : KL w (.slice (some ⟨b, o, none⟩) l'.len c) (.slice A2 m.len c2') (.slice (some ⟨b', o', none⟩) l'.len c') (.slice A2' m'.len c2'') b (o + q * 5) d0 d1 d2 d3 d4 b' (o' + q * 5) f0 f1 f2 f3 f4 w' := And.right (And.right (And.right (And.right (And.right (And.right (And.right (And.right (And.right (And.right (And.right (And.right (by assumption))))))))))))
          have HKB := Lib.hid HKM.2.2
          clear HKM hE0 C g0 g1 g2 g3 g4 g5 g6 g7 g8 g9 h1 h2 h3 h4
          go_wp2_with fail
          go_ret
          exact vsaid (not_if hno.out) HKB.out.below

theorem vsame_all : ∀ N u, sizeV u ≤ N → SameC u
  | 0, u, h => by cases u; rw [sizeV] at h; omega
  | N + 1, u, h => vsame_step N (vsame_all N) u h
theorem vsame_any (u : VT) : SameC u := vsame_all _ u (Nat.le_refl _)
theorem vmemb_any (m : VM) : MembC m := memb_any _ (vsame_all (sizeM m)) m (Nat.le_refl _)
end Go.Proofs.Ytgihnhdknphhpaa
