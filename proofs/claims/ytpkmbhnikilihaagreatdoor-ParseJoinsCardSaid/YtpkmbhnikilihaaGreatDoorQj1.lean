/- The walk of seineref1.Same, and both together. -/
import Derived.Test.YtpkmbhnikilihaaGreatDoorQj0
import Derived.Laws.AppendOwn
import Derived.Laws.OwnMore
import Derived.OwnWalk
import Derived.Deep.AppendLies
namespace Go.Proofs.YtpkmbhnikilihaaGreatDoor
open Go.RowKit

/-- The two boxes, what of them the loop and the end read. -/
def KS (w : World) (a3 a4 b3 b4 : Value) (W : World) : Prop := W.cell? ⟨w.heap.size, 3, none⟩ = some a3 ∧ W.cell? ⟨w.heap.size, 4, none⟩ = some a4 ∧ W.cell? ⟨w.heap.size + 1, 3, none⟩ = some b3 ∧ W.cell? ⟨w.heap.size + 1, 4, none⟩ = some b4 ∧ Below w.heap.size w W ∧ w.heap.size + 1 < W.heap.size
theorem KS.next {w W W' : World} {a3 a4 b3 b4 : Value} (h : KS w a3 a4 b3 b4 W) (hb : Below W.heap.size W W') : KS w a3 a4 b3 b4 W' := by
  obtain ⟨h1, h2, h3, h4, hB, hs⟩ := h
  have hs0 : w.heap.size < W.heap.size := by omega
  exact ⟨(hb.cell (p := ⟨_, _, none⟩) hs0).trans h1, (hb.cell (p := ⟨_, _, none⟩) hs0).trans h2, (hb.cell (p := ⟨_, _, none⟩) hs).trans h3, (hb.cell (p := ⟨_, _, none⟩) hs).trans h4, hB.trans (hb.mono hB.size), Nat.lt_of_lt_of_le hs hb.size⟩
theorem KS.start (w : World) (c0 c1 c2 c3 c4 d0 d1 d2 d3 d4 : Value) (t : TypeId) : KS w c3 c4 d3 d4 ((w.alloc (.cells #[c0, c1, c2, c3, c4] t)).alloc (.cells #[d0, d1, d2, d3, d4] t)) := by
  have k0 : ((w.alloc (.cells #[c0, c1, c2, c3, c4] t)).alloc (.cells #[d0, d1, d2, d3, d4] t)).heap[w.heap.size]? = some (.cells #[c0, c1, c2, c3, c4] t) := by
    rw [Below.heap_alloc _ _ _ (by simp)]
    show (w.heap.push _)[w.heap.size]? = _; simp
  have k1 : ((w.alloc (.cells #[c0, c1, c2, c3, c4] t)).alloc (.cells #[d0, d1, d2, d3, d4] t)).heap[w.heap.size + 1]? = some (.cells #[d0, d1, d2, d3, d4] t) := by
    show ((w.heap.push _).push _)[w.heap.size + 1]? = _
    rw [Array.getElem?_push, if_pos (by simp)]
  refine ⟨?_, ?_, ?_, ?_, ((Below.refl _ _).alloc (Nat.le_refl _) _).alloc (by simp) _, by simp⟩
  all_goals (simp only [World.cell?]; first | (rw [k0]; rfl) | (rw [k1]; rfl))
theorem KS.below {w W : World} {a3 a4 b3 b4 : Value} (h : KS w a3 a4 b3 b4 W) : Below w.heap.size w W := h.2.2.2.2.1

/-- Two elements at hand. -/
def KL (w : World) (a3 a4 b3 b4 : Value) (b O : Nat) (d0 d1 d2 d3 d4 : Value) (b' O' : Nat) (f0 f1 f2 f3 f4 : Value) (W : World) : Prop :=
  Five W b O d0 d1 d2 d3 d4 ∧ Five W b' O' f0 f1 f2 f3 f4 ∧ KS w a3 a4 b3 b4 W
theorem KL.next {w W W' : World} {a3 a4 b3 b4 : Value} {b O : Nat} {d0 d1 d2 d3 d4 : Value} {b' O' : Nat} {f0 f1 f2 f3 f4 : Value} (h : KL w a3 a4 b3 b4 b O d0 d1 d2 d3 d4 b' O' f0 f1 f2 f3 f4 W) (hl : b < w.heap.size) (hl' : b' < w.heap.size) (hb : Below W.heap.size W W') : KL w a3 a4 b3 b4 b O d0 d1 d2 d3 d4 b' O' f0 f1 f2 f3 f4 W' := by
  obtain ⟨h2, h4, hK⟩ := h
  have g := Nat.lt_of_lt_of_le hl hK.below.size
  have g' := Nat.lt_of_lt_of_le hl' hK.below.size
  exact ⟨h2.below hb g, h4.below hb g', hK.next hb⟩
theorem KL.written {w W : World} {a3 a4 b3 b4 : Value} {b O : Nat} {d0 d1 d2 d3 d4 : Value} {b' O' : Nat} {f0 f1 f2 f3 f4 : Value} (h : KL w a3 a4 b3 b4 b O d0 d1 d2 d3 d4 b' O' f0 f1 f2 f3 f4 W) :
    W.cell? ⟨b, O, none⟩ = some d0 ∧ W.cell? ⟨b, O + 1, none⟩ = some d1 ∧ W.cell? ⟨b, O + 2, none⟩ = some d2 ∧ W.cell? ⟨b, O + 3, none⟩ = some d3 ∧ W.cell? ⟨b, O + 4, none⟩ = some d4 ∧
    W.cell? ⟨b', O', none⟩ = some f0 ∧ W.cell? ⟨b', O' + 1, none⟩ = some f1 ∧ W.cell? ⟨b', O' + 2, none⟩ = some f2 ∧ W.cell? ⟨b', O' + 3, none⟩ = some f3 ∧ W.cell? ⟨b', O' + 4, none⟩ = some f4 ∧
    W.cell? ⟨w.heap.size, 3, none⟩ = some a3 ∧ W.cell? ⟨w.heap.size + 1, 3, none⟩ = some b3 ∧
    KL w a3 a4 b3 b4 b O d0 d1 d2 d3 d4 b' O' f0 f1 f2 f3 f4 W :=
  ⟨h.1.1, h.1.2.1, h.1.2.2.1, h.1.2.2.2.1, h.1.2.2.2.2, h.2.1.1, h.2.1.2.1, h.2.1.2.2.1, h.2.1.2.2.2.1, h.2.1.2.2.2.2, h.2.2.1, h.2.2.2.2.1, h⟩

set_option maxRecDepth 100000 in
set_option maxHeartbeats 8000000 in
theorem vsame_step (N : Nat) (H : ∀ u, sizeV u ≤ N → SameC u) : ∀ u, sizeV u ≤ N + 1 → SameC u := by
  intro u hu v c0 c1 c2 c3 c4 d0 d1 d2 d3 d4 w B hB h1 h2
  have HMB := Lib.hid (memb_any N H)
  have HS := Lib.hid H
  have HB0 := Lib.hid hB
  clear H hB
  obtain ⟨k, n, s, l, m⟩ := u
  obtain ⟨k', n', s', l', m'⟩ := v
  rw [sizeV] at hu
  unfold VAt at h1 h2
  obtain ⟨rfl, rfl, rfl, hs, ⟨A, c, rfl, hl, hL⟩, A2, c2', rfl, hm, hM⟩ := h1
  obtain ⟨rfl, rfl, rfl, hs', ⟨A', c', rfl, hl', hL'⟩, A2', c2'', rfl, hm', hM'⟩ := h2
  have HL := Lib.hid hL
  have HL' := Lib.hid hL'
  have HM := Lib.hid hM
  have HM' := Lib.hid hM'
  clear hL hL' hM hM'
  by_cases q0 : k = k'
  case neg =>
    have e0 : (k != k') = true := by simpa using q0
    have hno : Hid (¬ VT.mk k n s l m = .mk k' n' s' l' m') := Lib.hid (fun h => q0 (by injection h))
    clear q0
    go_enter Tryz.func21, Tryz.ntmps21
    go_wp2_with fail
    go_ret
    exact vsaid (not_if hno.out) (((Below.refl _ _).alloc (Nat.le_refl _) _).alloc (by simp) _)
  subst q0
  by_cases q1 : n = n'
  case neg =>
    have e0 : (n != n') = true := by simpa using q1
    have hno : Hid (¬ VT.mk k n s l m = .mk k n' s' l' m') := Lib.hid (fun h => q1 (by injection h))
    clear q1
    go_enter Tryz.func21, Tryz.ntmps21
    go_wp2_with fail
    go_ret
    exact vsaid (not_if hno.out) (((Below.refl _ _).alloc (Nat.le_refl _) _).alloc (by simp) _)
  subst q1
  by_cases q2 : s = s'
  case neg =>
    have hne : s.toList ≠ s'.toList := fun h => q2 (by
      rw [ByteArray.toList_eq, ByteArray.toList_eq] at h
      exact ByteArray.ext (Array.toList_inj.1 h))
    have e1 : (s.toList != s'.toList) = true := by simpa using hne
    have e1' : (s.toList == s'.toList) = false := by simpa using hne
    have hno : Hid (¬ VT.mk k n s l m = .mk k n s' l' m') := Lib.hid (fun h => q2 (by injection h))
    clear q2 hne
    go_enter Tryz.func21, Tryz.ntmps21
    go_wp2_with fail
    go_ret
    exact vsaid (not_if hno.out) (((Below.refl _ _).alloc (Nat.le_refl _) _).alloc (by simp) _)
  subst q2
  have z1 : (s.toList != s.toList) = false := by simp
  have z1' : (s.toList == s.toList) = true := by simp
  by_cases q3 : l.len = l'.len
  case neg =>
    have e0 : ((l.len : Int) != (l'.len : Int)) = true := by simp; omega
    have hno : Hid (¬ VT.mk k n s l m = .mk k n s l' m') := Lib.hid (fun h => q3 (by injection h with _ _ _ h _; rw [h]))
    clear q3
    go_enter Tryz.func21, Tryz.ntmps21
    go_wp2_with fail
    go_ret
    exact vsaid (not_if hno.out) (((Below.refl _ _).alloc (Nat.le_refl _) _).alloc (by simp) _)
  generalize hn : l.len = nn at *
  have HN := Lib.hid hn
  subst q3
  clear hn
  have e0 : ((l'.len : Int) != (l'.len : Int)) = false := by simp
  go_enter Tryz.func21, Tryz.ntmps21
  go_wp2_with fail
  go_loopg [5] l'.len (fun g i wx => ∃ q : Nat, q + g = l'.len ∧ i = .int .i64 q ∧ KS w (.slice A l'.len c) (.slice A2 m.len c2') (.slice A' l'.len c') (.slice A2' m'.len c2'') wx ∧ Aside (AgreeL l l' q))
  case atStart => exact ⟨0, by omega, rfl, KS.start _ _ _ _ _ _ _ _ _ _ _ _, vaside (fun j hj => by omega)⟩
  case round =>
    obtain ⟨q, hq, rfl, hK, HA⟩ := hrel
    have K := Lib.hid hK
    have HBB := Lib.hid hK.below
    obtain ⟨h1, h2, h3, h4, _, _⟩ := hK
    cases gk with
    | zero =>
      obtain rfl : q = l'.len := by omega
      have hE : Hid (l = l') := Lib.hid (VL.ext HN.out (by rw [HN.out]; exact HA.out))
      clear HA
      have C := fun (wx : World) (hx : Below w.heap.size w wx) => Lib.hid (HMB.out m (by omega) m' A2 A2' c2' c2'' wx B (Nat.le_trans HB0.out hx.size) hm hm' (MAt.below (hx.mono HB0.out) _ _ _ HM.out) (MAt.below (hx.mono HB0.out) _ _ _ HM'.out))
      go_wp2_with fail
      refine (C _ HBB.out).out.mono ?_
      rintro e w2 ⟨⟨b, rfl, hb⟩, hb2⟩
      have Hb := Lib.hid hb
      have Hb2 := Lib.hid (HBB.out.trans (hb2.mono HBB.out.size))
      clear hb hb2 C h1 h2 h3 h4
      go_wp2_with fail
      go_ret
      exact vsaid ⟨fun e => by rw [hE.out, Hb.out.1 e], fun e => Hb.out.2 (by injection e)⟩ Hb2.out
    | succ g =>
      have hqn : q < l'.len := by omega
      have hqn' : (q : Int) < (l'.len : Int) := by omega
      obtain ⟨x, hv⟩ := VL.get_lt (l := l) (j := q) (by rw [HN.out]; exact hqn)
      obtain ⟨y, hv'⟩ := VL.get_lt hqn
      have hvN := sizeL_get hv
      obtain ⟨b, o, d0, d1, d2, d3, d4, rfl, hblt, hF, hV⟩ := LAt.at (LAt.below (HBB.out.mono HB0.out) _ _ _ HL.out) hv
      obtain ⟨b', o', f0, f1, f2, f3, f4, rfl, hblt', hF', hV'⟩ := LAt.at (LAt.below (HBB.out.mono HB0.out) _ _ _ HL'.out) hv'
      rw [Nat.zero_add] at hF hF'
      have hE := Lib.hid hv
      have hE' := Lib.hid hv'
      have HBW : Hid (b < w.heap.size) := Lib.hid (Nat.lt_of_lt_of_le hblt HB0.out)
      have HBW' : Hid (b' < w.heap.size) := Lib.hid (Nat.lt_of_lt_of_le hblt' HB0.out)
      have hE0 : KL w (.slice (some ⟨b, o, none⟩) l'.len c) (.slice A2 m.len c2') (.slice (some ⟨b', o', none⟩) l'.len c') (.slice A2' m'.len c2'') b (o + q * 5) d0 d1 d2 d3 d4 b' (o' + q * 5) f0 f1 f2 f3 f4 wr := ⟨hF, hF', K.out⟩
      obtain ⟨g0, g1, g2, g3, g4⟩ := hF
      obtain ⟨g5, g6, g7, g8, g9⟩ := hF'
      clear hv hv'
      by_cases hvv : x = y
      · subst hvv
        have C := fun (wx : World) (hx : Below wr.heap.size wr wx) => Lib.hid ((HS.out x (by omega)).yes rfl d0 d1 d2 d3 d4 f0 f1 f2 f3 f4 wx B (Nat.le_trans HB0.out (Nat.le_trans HBB.out.size hx.size)) (VAt.below (hx.mono (Nat.le_trans HB0.out HBB.out.size)) _ _ _ _ _ _ hV) (VAt.below (hx.mono (Nat.le_trans HB0.out HBB.out.size)) _ _ _ _ _ _ hV'))
        have hnx : Hid (AgreeL l l' (q + 1)) := Lib.hid (AgreeL.next HA.out hE.out hE'.out)
        clear hV hV' HA hvN hblt hblt'
        go_wp2_with fail
        go_region_held3 (fun w' => w'.cell? ⟨b, o + q * 5, none⟩ = some d0 ∧ w'.cell? ⟨b, o + q * 5 + 1, none⟩ = some d1 ∧ w'.cell? ⟨b, o + q * 5 + 2, none⟩ = some d2 ∧ w'.cell? ⟨b, o + q * 5 + 3, none⟩ = some d3 ∧ w'.cell? ⟨b, o + q * 5 + 4, none⟩ = some d4 ∧ w'.cell? ⟨b', o' + q * 5, none⟩ = some f0 ∧ w'.cell? ⟨b', o' + q * 5 + 1, none⟩ = some f1 ∧ w'.cell? ⟨b', o' + q * 5 + 2, none⟩ = some f2 ∧ w'.cell? ⟨b', o' + q * 5 + 3, none⟩ = some f3 ∧ w'.cell? ⟨b', o' + q * 5 + 4, none⟩ = some f4 ∧ w'.cell? ⟨w.heap.size, 3, none⟩ = some (.slice (some ⟨b, o, none⟩) l'.len c) ∧ w'.cell? ⟨w.heap.size + 1, 3, none⟩ = some (.slice (some ⟨b', o', none⟩) l'.len c') ∧ KL w (.slice (some ⟨b, o, none⟩) l'.len c) (.slice A2 m.len c2') (.slice (some ⟨b', o', none⟩) l'.len c') (.slice A2' m'.len c2'') b (o + q * 5) d0 d1 d2 d3 d4 b' (o' + q * 5) f0 f1 f2 f3 f4 w')
          (first
            | exact KL.written (KL.next hE0 HBW.out HBW'.out (Below.drew (Below.refl _ _)))
            | exact KL.written ((KL.next hE0 HBW.out HBW'.out (Below.drew (Below.refl _ _))).next HBW.out HBW'.out (by assumption))
            | exact KL.written (KL.next hE0 HBW.out HBW'.out (by assumption))
            | exact KL.written (KL.next (by assumption) HBW.out HBW'.out (by assumption))
            | go_keep)
          ((first | (go_at_call 21; refine (C _ (by first | exact Below.drew (Below.refl _ _) | exact Below.refl _ _ | assumption)).out.mono ?_; rintro e w' ⟨rfl, hb⟩)))
        all_goals
          have HKM : KL w (.slice (some ⟨b, o, none⟩) l'.len c) (.slice A2 m.len c2') (.slice (some ⟨b', o', none⟩) l'.len c') (.slice A2' m'.len c2'') b (o + q * 5) d0 d1 d2 d3 d4 b' (o' + q * 5) f0 f1 f2 f3 f4 w' := And.right (And.right (And.right (And.right (And.right (And.right (And.right (And.right (And.right (And.right (And.right (And.right (by assumption))))))))))))
          have HKB := Lib.hid HKM.2.2
          clear HKM hE0 C g0 g1 g2 g3 g4 g5 g6 g7 g8 g9 h1 h2 h3 h4
          go_wp2_with fail
          go_roundg g
          case measure => omega
          case rel => exact ⟨q + 1, by omega, by go_num, HKB.out, vaside hnx.out⟩
      · have C := fun (wx : World) (hx : Below wr.heap.size wr wx) => Lib.hid ((HS.out x (by omega)).no hvv d0 d1 d2 d3 d4 f0 f1 f2 f3 f4 wx B (Nat.le_trans HB0.out (Nat.le_trans HBB.out.size hx.size)) (VAt.below (hx.mono (Nat.le_trans HB0.out HBB.out.size)) _ _ _ _ _ _ hV) (VAt.below (hx.mono (Nat.le_trans HB0.out HBB.out.size)) _ _ _ _ _ _ hV'))
        have hno : Hid (¬ VT.mk k n s l m = .mk k n s l' m') := Lib.hid (fun h => by
          injection h with _ _ _ h _
          subst h
          have := hE.out.symm.trans hE'.out
          simp only [Option.some.injEq] at this
          exact hvv this)
        clear hV hV' HA hvN hblt hblt' hvv
        go_wp2_with fail
        go_region_held3 (fun w' => w'.cell? ⟨b, o + q * 5, none⟩ = some d0 ∧ w'.cell? ⟨b, o + q * 5 + 1, none⟩ = some d1 ∧ w'.cell? ⟨b, o + q * 5 + 2, none⟩ = some d2 ∧ w'.cell? ⟨b, o + q * 5 + 3, none⟩ = some d3 ∧ w'.cell? ⟨b, o + q * 5 + 4, none⟩ = some d4 ∧ w'.cell? ⟨b', o' + q * 5, none⟩ = some f0 ∧ w'.cell? ⟨b', o' + q * 5 + 1, none⟩ = some f1 ∧ w'.cell? ⟨b', o' + q * 5 + 2, none⟩ = some f2 ∧ w'.cell? ⟨b', o' + q * 5 + 3, none⟩ = some f3 ∧ w'.cell? ⟨b', o' + q * 5 + 4, none⟩ = some f4 ∧ w'.cell? ⟨w.heap.size, 3, none⟩ = some (.slice (some ⟨b, o, none⟩) l'.len c) ∧ w'.cell? ⟨w.heap.size + 1, 3, none⟩ = some (.slice (some ⟨b', o', none⟩) l'.len c') ∧ KL w (.slice (some ⟨b, o, none⟩) l'.len c) (.slice A2 m.len c2') (.slice (some ⟨b', o', none⟩) l'.len c') (.slice A2' m'.len c2'') b (o + q * 5) d0 d1 d2 d3 d4 b' (o' + q * 5) f0 f1 f2 f3 f4 w')
          (first
            | exact KL.written (KL.next hE0 HBW.out HBW'.out (Below.drew (Below.refl _ _)))
            | exact KL.written ((KL.next hE0 HBW.out HBW'.out (Below.drew (Below.refl _ _))).next HBW.out HBW'.out (by assumption))
            | exact KL.written (KL.next hE0 HBW.out HBW'.out (by assumption))
            | exact KL.written (KL.next (by assumption) HBW.out HBW'.out (by assumption))
            | go_keep)
          ((first | (go_at_call 21; refine (C _ (by first | exact Below.drew (Below.refl _ _) | exact Below.refl _ _ | assumption)).out.mono ?_; rintro e w' ⟨rfl, hb⟩)))
        all_goals
          have HKM : KL w (.slice (some ⟨b, o, none⟩) l'.len c) (.slice A2 m.len c2') (.slice (some ⟨b', o', none⟩) l'.len c') (.slice A2' m'.len c2'') b (o + q * 5) d0 d1 d2 d3 d4 b' (o' + q * 5) f0 f1 f2 f3 f4 w' := And.right (And.right (And.right (And.right (And.right (And.right (And.right (And.right (And.right (And.right (And.right (And.right (by assumption))))))))))))
          have HKB := Lib.hid HKM.2.2
          clear HKM hE0 C g0 g1 g2 g3 g4 g5 g6 g7 g8 g9 h1 h2 h3 h4
          go_wp2_with fail
          go_ret
          exact vsaid (not_if hno.out) HKB.out.below

theorem vsame_all : ∀ N u, sizeV u ≤ N → SameC u
  | 0, u, h => by cases u; rw [sizeV] at h; omega
  | N + 1, u, h => vsame_step N (vsame_all N) u h
theorem vsame_any (u : VT) : SameC u := vsame_all _ u (Nat.le_refl _)
theorem vmemb_any (m : VM) : MembC m := memb_any _ (vsame_all (sizeM m)) m (Nat.le_refl _)
end Go.Proofs.YtpkmbhnikilihaaGreatDoor
/- Values whose blocks are named by a predicate: for a copy that is being built; rows of values and of members. -/
namespace Go.Proofs.YtpkmbhnikilihaaGreatDoor
open Go.RowKit

mutual
/-- As VAt, the blocks being those of which P speaks. -/
def VP (w : World) (P : Nat → Prop) : VT → Value → Value → Value → Value → Value → Prop
  | .mk k n s l m, c0, c1, c2, c3, c4 => c0 = .int .i64 k ∧ c1 = .int .i64 n ∧ c2 = .string s ∧ s.size ≤ 9223372036854775807 ∧ (∃ A c, c3 = .slice A l.len c ∧ l.len ≤ 9223372036854775807 ∧ LP w P l A 0) ∧ ∃ A c, c4 = .slice A m.len c ∧ m.len ≤ 9223372036854775807 ∧ MP w P m A 0
def LP (w : World) (P : Nat → Prop) : VL → Option Addr → Nat → Prop
  | .nil, _, _ => True
  | .cons v t, A, j => (∃ b o c0 c1 c2 c3 c4, A = some ⟨b, o, none⟩ ∧ P b ∧ Five w b (o + j * 5) c0 c1 c2 c3 c4 ∧ VP w P v c0 c1 c2 c3 c4) ∧ LP w P t A (j + 1)
def MP (w : World) (P : Nat → Prop) : VM → Option Addr → Nat → Prop
  | .nil, _, _ => True
  | .cons nm v t, A, j => (∃ b o c0 c1 c2 c3 c4, A = some ⟨b, o, none⟩ ∧ P b ∧ w.cell? ⟨b, o + j * 6, none⟩ = some (.string nm) ∧ nm.size ≤ 9223372036854775807 ∧ Five w b (o + j * 6 + 1) c0 c1 c2 c3 c4 ∧ VP w P v c0 c1 c2 c3 c4) ∧ MP w P t A (j + 1)
end
theorem Five.heap {w w' : World} {b o : Nat} {c0 c1 c2 c3 c4 : Value} (h : Five w b o c0 c1 c2 c3 c4) (hb : w'.heap[b]? = w.heap[b]?) : Five w' b o c0 c1 c2 c3 c4 :=
  ⟨(World.cell?_of_block (a := ⟨b, _, none⟩) hb).trans h.1, (World.cell?_of_block (a := ⟨b, _, none⟩) hb).trans h.2.1, (World.cell?_of_block (a := ⟨b, _, none⟩) hb).trans h.2.2.1, (World.cell?_of_block (a := ⟨b, _, none⟩) hb).trans h.2.2.2.1, (World.cell?_of_block (a := ⟨b, _, none⟩) hb).trans h.2.2.2.2⟩
mutual
theorem VP.keep {w w' : World} {P P' : Nat → Prop} (hP : ∀ b, P b → P' b ∧ w'.heap[b]? = w.heap[b]?) : ∀ (v : VT) (c0 c1 c2 c3 c4 : Value), VP w P v c0 c1 c2 c3 c4 → VP w' P' v c0 c1 c2 c3 c4
  | .mk k n s l m, c0, c1, c2, c3, c4, h => by
    unfold VP at h ⊢
    obtain ⟨h0, h1, h2, hs, ⟨A, c, h3, g3, h4⟩, A', c', h5, g5, h6⟩ := h
    exact ⟨h0, h1, h2, hs, ⟨A, c, h3, g3, LP.keep hP l A 0 h4⟩, A', c', h5, g5, MP.keep hP m A' 0 h6⟩
theorem LP.keep {w w' : World} {P P' : Nat → Prop} (hP : ∀ b, P b → P' b ∧ w'.heap[b]? = w.heap[b]?) : ∀ (l : VL) (A : Option Addr) (j : Nat), LP w P l A j → LP w' P' l A j
  | .nil, _, _, _ => by unfold LP; trivial
  | .cons v t, A, j, h => by
    unfold LP at h ⊢
    obtain ⟨⟨b, o, c0, c1, c2, c3, c4, hA, hlt, hf, hv⟩, ht⟩ := h
    exact ⟨⟨b, o, c0, c1, c2, c3, c4, hA, (hP b hlt).1, hf.heap (hP b hlt).2, VP.keep hP v _ _ _ _ _ hv⟩, LP.keep hP t A (j + 1) ht⟩
theorem MP.keep {w w' : World} {P P' : Nat → Prop} (hP : ∀ b, P b → P' b ∧ w'.heap[b]? = w.heap[b]?) : ∀ (l : VM) (A : Option Addr) (j : Nat), MP w P l A j → MP w' P' l A j
  | .nil, _, _, _ => by unfold MP; trivial
  | .cons nm v t, A, j, h => by
    unfold MP at h ⊢
    obtain ⟨⟨b, o, c0, c1, c2, c3, c4, hA, hlt, hn, hz, hf, hv⟩, ht⟩ := h
    exact ⟨⟨b, o, c0, c1, c2, c3, c4, hA, (hP b hlt).1, (World.cell?_of_block (a := ⟨b, _, none⟩) (hP b hlt).2).trans hn, hz, hf.heap (hP b hlt).2, VP.keep hP v _ _ _ _ _ hv⟩, MP.keep hP t A (j + 1) ht⟩
end
mutual
theorem VP.at {w : World} {B : Nat} {P : Nat → Prop} (hP : ∀ b, P b → b < B) : ∀ (v : VT) (c0 c1 c2 c3 c4 : Value), VP w P v c0 c1 c2 c3 c4 → VAt w B v c0 c1 c2 c3 c4
  | .mk k n s l m, c0, c1, c2, c3, c4, h => by
    unfold VP at h
    unfold VAt
    obtain ⟨h0, h1, h2, hs, ⟨A, c, h3, g3, h4⟩, A', c', h5, g5, h6⟩ := h
    exact ⟨h0, h1, h2, hs, ⟨A, c, h3, g3, LP.at hP l A 0 h4⟩, A', c', h5, g5, MP.at hP m A' 0 h6⟩
theorem LP.at {w : World} {B : Nat} {P : Nat → Prop} (hP : ∀ b, P b → b < B) : ∀ (l : VL) (A : Option Addr) (j : Nat), LP w P l A j → LAt w B l A j
  | .nil, _, _, _ => by unfold LAt; trivial
  | .cons v t, A, j, h => by
    unfold LP at h
    unfold LAt
    obtain ⟨⟨b, o, c0, c1, c2, c3, c4, hA, hlt, hf, hv⟩, ht⟩ := h
    exact ⟨⟨b, o, c0, c1, c2, c3, c4, hA, hP b hlt, hf, VP.at hP v _ _ _ _ _ hv⟩, LP.at hP t A (j + 1) ht⟩
theorem MP.at {w : World} {B : Nat} {P : Nat → Prop} (hP : ∀ b, P b → b < B) : ∀ (l : VM) (A : Option Addr) (j : Nat), MP w P l A j → MAt w B l A j
  | .nil, _, _, _ => by unfold MAt; trivial
  | .cons nm v t, A, j, h => by
    unfold MP at h
    unfold MAt
    obtain ⟨⟨b, o, c0, c1, c2, c3, c4, hA, hlt, hn, hz, hf, hv⟩, ht⟩ := h
    exact ⟨⟨b, o, c0, c1, c2, c3, c4, hA, hP b hlt, hn, hz, hf, VP.at hP v _ _ _ _ _ hv⟩, MP.at hP t A (j + 1) ht⟩
end
/-- These cells in a row are the list's values. -/
def ValsL (w : World) (P : Nat → Prop) : VL → List Value → Prop
  | .nil, xs => xs = []
  | .cons v t, xs => ∃ c0 c1 c2 c3 c4 ys, xs = c0 :: c1 :: c2 :: c3 :: c4 :: ys ∧ VP w P v c0 c1 c2 c3 c4 ∧ ValsL w P t ys
def ValsM (w : World) (P : Nat → Prop) : VM → List Value → Prop
  | .nil, xs => xs = []
  | .cons nm v t, xs => ∃ c0 c1 c2 c3 c4 ys, xs = .string nm :: c0 :: c1 :: c2 :: c3 :: c4 :: ys ∧ nm.size ≤ 9223372036854775807 ∧ VP w P v c0 c1 c2 c3 c4 ∧ ValsM w P t ys
def VL.snoc : VL → VT → VL
  | .nil, v => .cons v .nil
  | .cons u t, v => .cons u (t.snoc v)
def VM.snoc : VM → ByteArray → VT → VM
  | .nil, nm, v => .cons nm v .nil
  | .cons x u t, nm, v => .cons x u (t.snoc nm v)
def VL.take : VL → Nat → VL
  | _, 0 => .nil
  | .nil, _ + 1 => .nil
  | .cons v t, j + 1 => .cons v (t.take j)
def VM.take : VM → Nat → VM
  | _, 0 => .nil
  | .nil, _ + 1 => .nil
  | .cons nm v t, j + 1 => .cons nm v (t.take j)
theorem ValsL.keep {w w' : World} {P P' : Nat → Prop} (hP : ∀ b, P b → P' b ∧ w'.heap[b]? = w.heap[b]?) : ∀ {l : VL} {xs : List Value}, ValsL w P l xs → ValsL w' P' l xs
  | .nil, _, h => h
  | .cons v t, xs, h => by
    obtain ⟨c0, c1, c2, c3, c4, ys, e, hv, ht⟩ := h
    exact ⟨c0, c1, c2, c3, c4, ys, e, VP.keep hP _ _ _ _ _ _ hv, ValsL.keep hP ht⟩
theorem ValsM.keep {w w' : World} {P P' : Nat → Prop} (hP : ∀ b, P b → P' b ∧ w'.heap[b]? = w.heap[b]?) : ∀ {l : VM} {xs : List Value}, ValsM w P l xs → ValsM w' P' l xs
  | .nil, _, h => h
  | .cons nm v t, xs, h => by
    obtain ⟨c0, c1, c2, c3, c4, ys, e, hn, hv, ht⟩ := h
    exact ⟨c0, c1, c2, c3, c4, ys, e, hn, VP.keep hP _ _ _ _ _ _ hv, ValsM.keep hP ht⟩
theorem ValsL.snoc {w : World} {P : Nat → Prop} {v : VT} {d0 d1 d2 d3 d4 : Value} (hd : VP w P v d0 d1 d2 d3 d4) : ∀ {l : VL} {xs : List Value}, ValsL w P l xs → ValsL w P (l.snoc v) (xs ++ [d0, d1, d2, d3, d4])
  | .nil, xs, h => by
    have : xs = [] := h
    subst this
    exact ⟨d0, d1, d2, d3, d4, [], rfl, hd, rfl⟩
  | .cons u t, xs, h => by
    obtain ⟨c0, c1, c2, c3, c4, ys, rfl, hv, ht⟩ := h
    exact ⟨c0, c1, c2, c3, c4, ys ++ [d0, d1, d2, d3, d4], by simp, hv, ValsL.snoc hd ht⟩
theorem ValsM.snoc {w : World} {P : Nat → Prop} {nm : ByteArray} {v : VT} {d0 d1 d2 d3 d4 : Value} (hn : nm.size ≤ 9223372036854775807) (hd : VP w P v d0 d1 d2 d3 d4) : ∀ {l : VM} {xs : List Value}, ValsM w P l xs → ValsM w P (l.snoc nm v) (xs ++ [.string nm, d0, d1, d2, d3, d4])
  | .nil, xs, h => by
    have : xs = [] := h
    subst this
    exact ⟨d0, d1, d2, d3, d4, [], rfl, hn, hd, rfl⟩
  | .cons x u t, xs, h => by
    obtain ⟨c0, c1, c2, c3, c4, ys, rfl, hx, hv, ht⟩ := h
    exact ⟨c0, c1, c2, c3, c4, ys ++ [.string nm, d0, d1, d2, d3, d4], by simp, hx, hv, ValsM.snoc hn hd ht⟩
theorem LP.of_cells {w : World} {P : Nat → Prop} {g : Nat} (hg : P g) : ∀ {l : VL} {xs : List Value} (i : Nat), ValsL w P l xs → (∀ j u, xs[j]? = some u → w.cell? ⟨g, i * 5 + j, none⟩ = some u) → LP w P l (some ⟨g, 0, none⟩) i
  | .nil, _, _, _, _ => by unfold LP; trivial
  | .cons v t, xs, i, h, hc => by
    obtain ⟨c0, c1, c2, c3, c4, ys, rfl, hv, ht⟩ := h
    unfold LP
    refine ⟨⟨g, 0, c0, c1, c2, c3, c4, rfl, hg, ?_, hv⟩, LP.of_cells hg (i + 1) ht (fun j u hj => ?_)⟩
    · rw [Nat.zero_add]
      exact ⟨hc 0 c0 rfl, hc 1 c1 rfl, hc 2 c2 rfl, hc 3 c3 rfl, hc 4 c4 rfl⟩
    · have := hc (j + 5) u (by simpa using hj)
      rwa [show i * 5 + (j + 5) = (i + 1) * 5 + j by omega] at this
theorem MP.of_cells {w : World} {P : Nat → Prop} {g : Nat} (hg : P g) : ∀ {l : VM} {xs : List Value} (i : Nat), ValsM w P l xs → (∀ j u, xs[j]? = some u → w.cell? ⟨g, i * 6 + j, none⟩ = some u) → MP w P l (some ⟨g, 0, none⟩) i
  | .nil, _, _, _, _ => by unfold MP; trivial
  | .cons nm v t, xs, i, h, hc => by
    obtain ⟨c0, c1, c2, c3, c4, ys, rfl, hn, hv, ht⟩ := h
    unfold MP
    refine ⟨⟨g, 0, c0, c1, c2, c3, c4, rfl, hg, ?_, hn, ?_, hv⟩, MP.of_cells hg (i + 1) ht (fun j u hj => ?_)⟩
    · rw [Nat.zero_add]; exact hc 0 _ rfl
    · rw [Nat.zero_add]
      exact ⟨hc 1 c0 rfl, hc 2 c1 rfl, hc 3 c2 rfl, hc 4 c3 rfl, hc 5 c4 rfl⟩
    · have := hc (j + 6) u (by simpa using hj)
      rwa [show i * 6 + (j + 6) = (i + 1) * 6 + j by omega] at this
/-- A row that is owned, and whose cells are the list's. -/
theorem row_list {w : World} {base : Nat} {V : Value} {P : Nat → Prop} {l : VL} {xs : List Value} (h : w.ownsRow base 35 5 V l.len xs) (hv : ValsL w P l xs) :
    ∃ A c, V = .slice A l.len c ∧ LP w (fun b => P b ∨ V.ownBlock = some b) l A 0 := by
  rcases h.2 with ⟨hV, hn⟩ | ⟨g, c, cur, hV, _⟩
  · refine ⟨none, 0, by rw [hV, hn], ?_⟩
    cases l with
    | nil => unfold LP; trivial
    | cons v t => simp [VL.len] at hn
  · have hg : V.ownBlock = some g := by rw [hV]; rfl
    refine ⟨some ⟨g, 0, none⟩, c, hV, LP.of_cells (.inr hg) 0 (hv.keep (fun b hb => ⟨.inl hb, rfl⟩)) (fun j u hj => ?_)⟩
    have := h.cells hg j u hj
    rwa [add_at, Nat.zero_add, show j = 0 * 5 + j by omega] at this
theorem row_members {w : World} {base : Nat} {V : Value} {P : Nat → Prop} {l : VM} {xs : List Value} (h : w.ownsRow base 98 6 V l.len xs) (hv : ValsM w P l xs) :
    ∃ A c, V = .slice A l.len c ∧ MP w (fun b => P b ∨ V.ownBlock = some b) l A 0 := by
  rcases h.2 with ⟨hV, hn⟩ | ⟨g, c, cur, hV, _⟩
  · refine ⟨none, 0, by rw [hV, hn], ?_⟩
    cases l with
    | nil => unfold MP; trivial
    | cons nm v t => simp [VM.len] at hn
  · have hg : V.ownBlock = some g := by rw [hV]; rfl
    refine ⟨some ⟨g, 0, none⟩, c, hV, MP.of_cells (.inr hg) 0 (hv.keep (fun b hb => ⟨.inl hb, rfl⟩)) (fun j u hj => ?_)⟩
    have := h.cells hg j u hj
    rwa [add_at, Nat.zero_add, show j = 0 * 6 + j by omega] at this
end Go.Proofs.YtpkmbhnikilihaaGreatDoor
/- The walk of seinekeep.Value: a copy of a value, from that of its parts. -/
namespace Go.Proofs.YtpkmbhnikilihaaGreatDoor
open Go.RowKit

theorem info_val : (Tryz.prog.info? 35).map (fun i => (i.zero, i.size, i.bytes)) = some (some (.agg #[.int .i64 0, .int .i64 0, .string ⟨#[]⟩, .slice none 0 0, .slice none 0 0]), 5, 80) := by kernel_rfl
theorem info_mem : (Tryz.prog.info? 98).map (fun i => (i.zero, i.size, i.bytes)) = some (some (.agg #[.string ⟨#[]⟩, .int .i64 0, .int .i64 0, .string ⟨#[]⟩, .slice none 0 0, .slice none 0 0]), 6, 96) := by kernel_rfl
/-- The blocks that are new since w. -/
def Fresh (w w' : World) (b : Nat) : Prop := w.heap.size ≤ b ∧ b < w'.heap.size
/-- The row that is being built. -/
def RT (base : Nat) (W : World) (V : Value) (q : Nat) (l : VL) : Prop := ∃ xs P, W.ownsRow base 35 5 V q xs ∧ ValsL W P l xs ∧ ∀ b, P b → base ≤ b ∧ b < W.heap.size ∧ V.ownBlock ≠ some b
def RM (base : Nat) (W : World) (V : Value) (q : Nat) (l : VM) : Prop := ∃ xs P, W.ownsRow base 98 6 V q xs ∧ ValsM W P l xs ∧ ∀ b, P b → base ≤ b ∧ b < W.heap.size ∧ V.ownBlock ≠ some b
theorem RT.start (base : Nat) (W : World) : RT base W (.slice none 0 0) 0 .nil := ⟨[], fun _ => False, World.ownsRow_nil _ _ _ _, rfl, fun _ h => h.elim⟩
theorem RM.start (base : Nat) (W : World) : RM base W (.slice none 0 0) 0 .nil := ⟨[], fun _ => False, World.ownsRow_nil _ _ _ _, rfl, fun _ h => h.elim⟩
theorem own_low {B : Nat} {e : TypeId} {k : Nat} {v : Value} {n : Nat} {xs : List Value} {w w' : World} (h : w.ownsRow B e k v n xs) (hb : Below w.heap.size w w') : w'.ownsRow B e k v n xs :=
  h.kept (row := none) ⟨hb.os, hb.tape, hb.output, hb.size, fun j hj _ => hb.block j hj⟩ (Classical.em _)
/-- What the step of an append keeps, block by block. -/
theorem step_blocks {wr w2 w4 : World} {V : Value} {g : Nat} {o : Obj} {P : Nat → Prop} {base : Nat} (hbase : base ≤ wr.heap.size) (hV : ∀ k, V.ownBlock = some k → k < wr.heap.size) (hP : ∀ b, P b → base ≤ b ∧ b < wr.heap.size ∧ V.ownBlock ≠ some b)
    (hb : Below wr.heap.size wr w2) (hg : (w2.alloc o).grownBy w4 V.ownBlock) (hat : V.ownBlock = some g ∨ g = (w2.alloc o).heap.size) :
    (∀ b, P b → (P b ∨ Fresh wr w2 b) ∧ w4.heap[b]? = wr.heap[b]?) ∧ (∀ b, Fresh wr w2 b → (P b ∨ Fresh wr w2 b) ∧ w4.heap[b]? = w2.heap[b]?) ∧ (∀ b, P b ∨ Fresh wr w2 b → base ≤ b ∧ b < w4.heap.size ∧ some g ≠ some b) := by
  have hs2 := hb.size
  have hs4 := hg.size
  have ha : (w2.alloc o).heap.size = w2.heap.size + 1 := by simp
  have hn : ∀ b, Fresh wr w2 b → V.ownBlock ≠ some b := fun b h e => by have := hV b e; have := h.1; omega
  refine ⟨fun b h => ⟨.inl h, ?_⟩, fun b h => ⟨.inr h, ?_⟩, fun b h => ?_⟩
  · obtain ⟨_, h1, h2⟩ := hP b h
    rw [hg.block b (by omega) (fun e => h2 e.symm), Below.heap_alloc _ _ _ (by omega), hb.block b h1]
  · have h1 := h.2
    rw [hg.block b (by omega) (fun e => hn b h e.symm), Below.heap_alloc _ _ _ h1]
  · have hlt : base ≤ b ∧ b < w2.heap.size ∧ V.ownBlock ≠ some b := by
      rcases h with h | h
      · obtain ⟨h0, h1, h2⟩ := hP b h
        exact ⟨h0, by omega, h2⟩
      · exact ⟨Nat.le_trans hbase h.1, h.2, hn b h⟩
    refine ⟨hlt.1, by omega, fun e => ?_⟩
    rcases hat with hat | hat
    · exact hlt.2.2 (hat.trans e)
    · have : g = b := by injection e
      omega
theorem RT.next {base q cap g : Nat} {wr w2 w4 : World} {V : Value} {l : VL} {v : VT} {o : Obj} {xs : List Value} {P : Nat → Prop} {d0 d1 d2 d3 d4 : Value} (hbase : base ≤ wr.heap.size) (hown : wr.ownsRow base 35 5 V q xs) (hv : ValsL wr P l xs) (hP : ∀ b, P b → base ≤ b ∧ b < wr.heap.size ∧ V.ownBlock ≠ some b)
    (hb : Below wr.heap.size wr w2) (hd : VP w2 (Fresh wr w2) v d0 d1 d2 d3 d4) (hown4 : w4.ownsRow base 35 5 (.slice (some ⟨g, 0, none⟩) (q + 1) cap) (q + 1) (xs ++ [d0, d1, d2, d3, d4])) (hg : (w2.alloc o).grownBy w4 V.ownBlock) (hat : V.ownBlock = some g ∨ g = (w2.alloc o).heap.size) :
    RT base w4 (.slice (some ⟨g, 0, none⟩) (q + 1) cap) (q + 1) (l.snoc v) := by
  obtain ⟨h1, h2, h3⟩ := step_blocks hbase (fun k hk => (hown.lt k hk).2) hP hb hg hat
  exact ⟨_, fun b => P b ∨ Fresh wr w2 b, hown4, ValsL.snoc (VP.keep h2 _ _ _ _ _ _ hd) (hv.keep h1), h3⟩
theorem RM.next {base q cap g : Nat} {wr w2 w4 : World} {V : Value} {l : VM} {nm : ByteArray} {v : VT} {o : Obj} {xs : List Value} {P : Nat → Prop} {d0 d1 d2 d3 d4 : Value} (hbase : base ≤ wr.heap.size) (hown : wr.ownsRow base 98 6 V q xs) (hv : ValsM wr P l xs) (hP : ∀ b, P b → base ≤ b ∧ b < wr.heap.size ∧ V.ownBlock ≠ some b) (hnm : nm.size ≤ 9223372036854775807)
    (hb : Below wr.heap.size wr w2) (hd : VP w2 (Fresh wr w2) v d0 d1 d2 d3 d4) (hown4 : w4.ownsRow base 98 6 (.slice (some ⟨g, 0, none⟩) (q + 1) cap) (q + 1) (xs ++ [.string nm, d0, d1, d2, d3, d4])) (hg : (w2.alloc o).grownBy w4 V.ownBlock) (hat : V.ownBlock = some g ∨ g = (w2.alloc o).heap.size) :
    RM base w4 (.slice (some ⟨g, 0, none⟩) (q + 1) cap) (q + 1) (l.snoc nm v) := by
  obtain ⟨h1, h2, h3⟩ := step_blocks hbase (fun k hk => (hown.lt k hk).2) hP hb hg hat
  exact ⟨_, fun b => P b ∨ Fresh wr w2 b, hown4, ValsM.snoc hnm (VP.keep h2 _ _ _ _ _ _ hd) (hv.keep h1), h3⟩
theorem shape_own {w : World} {base sz : Nat} {e : TypeId} {v : Value} {n : Nat} {xs : List Value} (h : w.ownsRow base e sz v n xs) : ∃ A cap, v = .slice A n cap := by
  rcases h.2 with ⟨hv, hn⟩ | ⟨g, cap, cur, hv, _⟩
  · exact ⟨none, 0, by rw [hv, hn]⟩
  · exact ⟨_, _, hv⟩
theorem five_new (w : World) (a0 a1 a2 a3 a4 : Value) (t : TypeId) {n : Nat} (hn : n = w.heap.size) : ∀ (j : Nat) u, [a0, a1, a2, a3, a4][j]? = some u → (w.alloc (.cells #[a0, a1, a2, a3, a4] t)).cell? ((⟨n, 0, none⟩ : Addr).add j) = some u := by
  subst hn
  intro j u hu
  rw [add_at, Nat.zero_add]
  match j, hu with
  | 0, hu => cases hu; rw [World.cell?_alloc_at _ _ _ _ rfl]; rfl
  | 1, hu => cases hu; rw [World.cell?_alloc_at _ _ _ _ rfl]; rfl
  | 2, hu => cases hu; rw [World.cell?_alloc_at _ _ _ _ rfl]; rfl
  | 3, hu => cases hu; rw [World.cell?_alloc_at _ _ _ _ rfl]; rfl
  | 4, hu => cases hu; rw [World.cell?_alloc_at _ _ _ _ rfl]; rfl
theorem six_new (w : World) (a a0 a1 a2 a3 a4 : Value) (t : TypeId) {n : Nat} (hn : n = w.heap.size) : ∀ (j : Nat) u, [a, a0, a1, a2, a3, a4][j]? = some u → (w.alloc (.cells #[a, a0, a1, a2, a3, a4] t)).cell? ((⟨n, 0, none⟩ : Addr).add j) = some u := by
  subst hn
  intro j u hu
  rw [add_at, Nat.zero_add]
  match j, hu with
  | 0, hu => cases hu; rw [World.cell?_alloc_at _ _ _ _ rfl]; rfl
  | 1, hu => cases hu; rw [World.cell?_alloc_at _ _ _ _ rfl]; rfl
  | 2, hu => cases hu; rw [World.cell?_alloc_at _ _ _ _ rfl]; rfl
  | 3, hu => cases hu; rw [World.cell?_alloc_at _ _ _ _ rfl]; rfl
  | 4, hu => cases hu; rw [World.cell?_alloc_at _ _ _ _ rfl]; rfl
  | 5, hu => cases hu; rw [World.cell?_alloc_at _ _ _ _ rfl]; rfl
end Go.Proofs.YtpkmbhnikilihaaGreatDoor
