/- The walk of seinekeep.Size: by induction on the tree. -/
import Derived.Test.YtohkimibphleaaaVAt
import Derived.Deep.LoopGhost
import Derived.Deep.WholeRow
import Derived.Deep.RegionHeld3
import Derived.Shelf.Abstract
namespace Go.Proofs.Ytohkimibphleaaa
open Go.RowKit

mutual
def sizeV : VT → Nat
  | .mk _ _ s l m => 1 + s.size + sizeL l + sizeM m
def sizeL : VL → Nat
  | .nil => 0
  | .cons v t => sizeV v + sizeL t
def sizeM : VM → Nat
  | .nil => 0
  | .cons nm v t => nm.size + sizeV v + sizeM t
end
/-- The first j of them. -/
def preL : VL → Nat → Nat
  | .nil, _ => 0
  | .cons _ _, 0 => 0
  | .cons v t, j + 1 => sizeV v + preL t j
def preM : VM → Nat → Nat
  | .nil, _ => 0
  | .cons _ _ _, 0 => 0
  | .cons nm v t, j + 1 => nm.size + sizeV v + preM t j
theorem preL_zero (l : VL) : preL l 0 = 0 := by cases l <;> rfl
theorem preM_zero (l : VM) : preM l 0 = 0 := by cases l <;> rfl
theorem preL_next : ∀ {l : VL} {j : Nat} {v : VT}, l.get j = some v → preL l (j + 1) = preL l j + sizeV v
  | .nil, _, _, h => by simp [VL.get] at h
  | .cons u t, 0, v, h => by
    have : u = v := by simpa [VL.get] using h
    subst this
    show sizeV u + preL t 0 = 0 + sizeV u
    rw [preL_zero]; omega
  | .cons u t, j + 1, v, h => by
    have := preL_next (l := t) (j := j) (v := v) h
    rw [preL, this, preL]; omega
theorem preM_next : ∀ {l : VM} {j : Nat} {nm : ByteArray} {v : VT}, l.get j = some (nm, v) → preM l (j + 1) = preM l j + nm.size + sizeV v
  | .nil, _, _, _, h => by simp [VM.get] at h
  | .cons x u t, 0, nm, v, h => by
    have : x = nm ∧ u = v := by simpa [VM.get] using h
    obtain ⟨rfl, rfl⟩ := this
    show x.size + sizeV u + preM t 0 = 0 + x.size + sizeV u
    rw [preM_zero]; omega
  | .cons x u t, j + 1, nm, v, h => by
    have := preM_next (l := t) (j := j) (nm := nm) (v := v) h
    rw [preM, this, preM]; omega
theorem preL_all : ∀ l : VL, preL l l.len = sizeL l
  | .nil => rfl
  | .cons v t => by rw [VL.len, preL, preL_all t, sizeL]
theorem preM_all : ∀ l : VM, preM l l.len = sizeM l
  | .nil => rfl
  | .cons nm v t => by rw [VM.len, preM, preM_all t, sizeM]
theorem sizeL_get : ∀ {l : VL} {j : Nat} {v : VT}, l.get j = some v → sizeV v ≤ sizeL l
  | .nil, _, _, h => by simp [VL.get] at h
  | .cons u t, 0, v, h => by
    have : u = v := by simpa [VL.get] using h
    subst this
    rw [sizeL]; omega
  | .cons u t, j + 1, v, h => by
    have := sizeL_get (l := t) (j := j) (v := v) h
    rw [sizeL]; omega
theorem sizeM_get : ∀ {l : VM} {j : Nat} {nm : ByteArray} {v : VT}, l.get j = some (nm, v) → nm.size + sizeV v ≤ sizeM l
  | .nil, _, _, _, h => by simp [VM.get] at h
  | .cons x u t, 0, nm, v, h => by
    have : x = nm ∧ u = v := by simpa [VM.get] using h
    obtain ⟨rfl, rfl⟩ := this
    rw [sizeM]; omega
  | .cons x u t, j + 1, nm, v, h => by
    have := sizeM_get (l := t) (j := j) (nm := nm) (v := v) h
    rw [sizeM]; omega
/-- A sum as a number of 64 bits. -/
def W64 (n : Nat) : Int := IntKind.i64.wrap (n : Int)
theorem W64_add (a b : Nat) : IntKind.i64.wrap (W64 a + W64 b) = W64 (a + b) := by
  unfold W64
  simp only [IntKind.wrap_i64]
  omega
theorem W64_plus (a b : Nat) : IntKind.i64.wrap (W64 a + (b : Int)) = W64 (a + b) := by
  unfold W64
  simp only [IntKind.wrap_i64]
  omega
theorem W64_one (b : Nat) : IntKind.i64.wrap (1 + (b : Int)) = W64 (1 + b) := by
  unfold W64
  simp only [IntKind.wrap_i64]
  omega
/-- The box of the argument, and nothing that was there has turned. -/
def KV (w : World) (c2 c3 c4 : Value) (w' : World) : Prop := w'.cell? ⟨w.heap.size, 2, none⟩ = some c2 ∧ w'.cell? ⟨w.heap.size, 3, none⟩ = some c3 ∧ w'.cell? ⟨w.heap.size, 4, none⟩ = some c4 ∧ Below w.heap.size w w' ∧ w.heap.size < w'.heap.size
theorem KV.next {w W W' : World} {c2 c3 c4 : Value} (h : KV w c2 c3 c4 W) (hb : Below W.heap.size W W') : KV w c2 c3 c4 W' := by
  obtain ⟨h2, h3, h4, hB, hs⟩ := h
  exact ⟨(hb.cell (p := ⟨_, _, none⟩) hs).trans h2, (hb.cell (p := ⟨_, _, none⟩) hs).trans h3, (hb.cell (p := ⟨_, _, none⟩) hs).trans h4, hB.trans (hb.mono hB.size), Nat.lt_of_lt_of_le hs hb.size⟩
theorem KV.start (w : World) (c0 c1 c2 c3 c4 : Value) (t : TypeId) : KV w c2 c3 c4 (w.alloc (.cells #[c0, c1, c2, c3, c4] t)) := by
  refine ⟨?_, ?_, ?_, (Below.refl _ _).alloc (Nat.le_refl _) _, by simp⟩ <;> (simp only [World.cell?]; rw [show (w.alloc (.cells #[c0, c1, c2, c3, c4] t)).heap[w.heap.size]? = some (.cells #[c0, c1, c2, c3, c4] t) by show (w.heap.push _)[w.heap.size]? = _; simp]; rfl)
theorem KV.elem {w W W' : World} {c2 c3 c4 : Value} {p : Addr} {x : Value} (h : KV w c2 c3 c4 W ∧ W.cell? p = some x) (hp : p.block < w.heap.size) (hb : Below W.heap.size W W') : KV w c2 c3 c4 W' ∧ W'.cell? p = some x :=
  ⟨h.1.next hb, (hb.cell (Nat.lt_trans hp h.1.2.2.2.2)).trans h.2⟩
/-- And the member at hand. -/
def KM (w : World) (c2 c3 c4 : Value) (b O : Nat) (nm d0 d1 d2 d3 d4 : Value) (w' : World) : Prop := w'.cell? ⟨w.heap.size, 4, none⟩ = some c4 ∧ w'.cell? ⟨b, O, none⟩ = some nm ∧ Five w' b (O + 1) d0 d1 d2 d3 d4 ∧ KV w c2 c3 c4 w'
theorem KM.next {w W W' : World} {c2 c3 c4 : Value} {b O : Nat} {nm d0 d1 d2 d3 d4 : Value} (h : KM w c2 c3 c4 b O nm d0 d1 d2 d3 d4 W) (hbw : b < w.heap.size) (hb : Below W.heap.size W W') : KM w c2 c3 c4 b O nm d0 d1 d2 d3 d4 W' := by
  obtain ⟨h4, hn, hF, hK⟩ := h
  have hl : b < W.heap.size := Nat.lt_trans hbw hK.2.2.2.2
  have hK' := hK.next hb
  exact ⟨hK'.2.2.1, (hb.cell (p := ⟨b, _, none⟩) hl).trans hn, hF.below hb hl, hK'⟩
theorem KM.below {w W : World} {c2 c3 c4 : Value} {b O : Nat} {nm d0 d1 d2 d3 d4 : Value} (h : KM w c2 c3 c4 b O nm d0 d1 d2 d3 d4 W) : Below w.heap.size w W := h.2.2.2.2.2.2.1
theorem KM.written {w W : World} {c2 c3 c4 : Value} {b O : Nat} {nm d0 d1 d2 d3 d4 : Value} (h : KM w c2 c3 c4 b O nm d0 d1 d2 d3 d4 W) : W.cell? ⟨w.heap.size, 4, none⟩ = some c4 ∧ W.cell? ⟨b, O, none⟩ = some nm ∧ W.cell? ⟨b, O + 1, none⟩ = some d0 ∧ W.cell? ⟨b, O + 1 + 1, none⟩ = some d1 ∧ W.cell? ⟨b, O + 1 + 2, none⟩ = some d2 ∧ W.cell? ⟨b, O + 1 + 3, none⟩ = some d3 ∧ W.cell? ⟨b, O + 1 + 4, none⟩ = some d4 ∧ KM w c2 c3 c4 b O nm d0 d1 d2 d3 d4 W :=
  ⟨h.1, h.2.1, h.2.2.1.1, h.2.2.1.2.1, h.2.2.1.2.2.1, h.2.2.1.2.2.2.1, h.2.2.1.2.2.2.2, h⟩
theorem vret {a b : Nat} (h : b = a) : Ending.returned (.int .i64 (W64 a)) = .returned (.int .i64 (W64 b)) := by rw [h]
theorem W64_two (a b c : Nat) : IntKind.i64.wrap (IntKind.i64.wrap (W64 a + (b : Int)) + W64 c) = W64 (a + b + c) := by
  rw [W64_plus, W64_add]

set_option maxRecDepth 100000 in
set_option maxHeartbeats 4000000 in
theorem vsize_any : ∀ (N : Nat) (v : VT), sizeV v ≤ N → ∀ (c0 c1 c2 c3 c4 : Value) (w : World) (B : Nat), B ≤ w.heap.size → VAt w B v c0 c1 c2 c3 c4 →
    Calls Try.prog 13 #[.agg #[c0, c1, c2, c3, c4]] w fun e w' => e = .returned (.int .i64 (W64 (sizeV v))) ∧ Below w.heap.size w w' := by
  intro N
  induction N with
  | zero => intro v h; cases v; rw [sizeV] at h; omega
  | succ N ih =>
    intro v hN c0 c1 c2 c3 c4 w B hB hv
    obtain ⟨k, n, s, l, m⟩ := v
    have hsz : sizeV (.mk k n s l m) = 1 + s.size + sizeL l + sizeM m := by rw [sizeV]
    rw [hsz] at hN ⊢
    unfold VAt at hv
    obtain ⟨rfl, rfl, rfl, hs, ⟨A, c, rfl, hl, hL⟩, A', c', rfl, hm, hM⟩ := hv
    have HL := Lib.hid hL
    have HM := Lib.hid hM
    have IH := Lib.hid ih
    have hw1 := W64_one s.size
    have HB0 := Lib.hid hB
    clear hL hM ih hsz hB
    go_enter Try.func13, Try.ntmps13
    go_wp2_with fail
    go_loopg [3, 4] l.len (fun g out i wx => ∃ q : Nat, q + g = l.len ∧ i = .int .i64 q ∧ out = .int .i64 (W64 (1 + s.size + preL l q)) ∧ KV w (.string s) (.slice A l.len c) (.slice A' m.len c') wx)
    case atStart => exact ⟨0, by omega, rfl, by rw [preL_zero, Nat.add_zero], KV.start _ _ _ _ _ _ _⟩
    case round =>
      obtain ⟨q, hq, rfl, rfl, hK⟩ := hrel
      have K := Lib.hid hK
      obtain ⟨h2, h3, h4, hb, hlt0⟩ := hK
      have HBB := Lib.hid hb
      clear hb hw1
      cases gk with
      | zero =>
        obtain rfl : q = l.len := by omega
        rw [preL_all]
        obtain ⟨T, hT⟩ : ∃ T : Nat, 1 + s.size + sizeL l = T := ⟨_, rfl⟩
        rw [hT] at hN ⊢
        have hT1 : 1 ≤ T := by omega
        have HT := Lib.hid hT
        clear hT hlt0
        go_wp2_with fail
        clear h2 h3 h4
        go_loopg [3, 5] m.len (fun g out i wx => ∃ q : Nat, q + g = m.len ∧ i = .int .i64 q ∧ out = .int .i64 (W64 (T + preM m q)) ∧ KV w (.string s) (.slice A l.len c) (.slice A' m.len c') wx)
        case atStart => exact ⟨0, by omega, rfl, by rw [preM_zero, Nat.add_zero], K.out⟩
        case round =>
          obtain ⟨q, hq, rfl, rfl, hK⟩ := hrel
          have K' := Lib.hid hK
          obtain ⟨h2, h3, h4, hb, hlt0⟩ := hK
          have HBC := Lib.hid hb
          clear hb h2 h3
          cases gk with
          | zero =>
            obtain rfl : q = m.len := by omega
            rw [preM_all]
            go_wp2_with fail
            go_ret
            exact ⟨vret (by rw [HT.out]), HBC.out⟩
          | succ g =>
            have hqn : q < m.len := by omega
            have hqn' : (q : Int) < (m.len : Int) := by omega
            obtain ⟨⟨nm, v⟩, hv⟩ := VM.get_lt hqn
            have hvN := sizeM_get hv
            obtain ⟨b, o, d0, d1, d2, d3, d4, rfl, hblt, hnm, hns, hF, hV⟩ := MAt.at HM.out hv
            rw [Nat.zero_add] at hF hnm
            have hbw : b < w.heap.size := Nat.lt_of_lt_of_le hblt HB0.out
            have hE : KM w (.string s) (.slice A l.len c) (.slice (some ⟨b, o, none⟩) m.len c') b (o + q * 6) (.string nm) d0 d1 d2 d3 d4 wr := ⟨h4, (HBC.out.cell (p := ⟨b, _, none⟩) hbw).trans hnm, hF.below HBC.out hbw, K'.out⟩
            have hE2 := hE
            obtain ⟨f4, f5, ⟨f6, f7, f8, f9, f10⟩, _⟩ := hE2
            have HBW := Lib.hid hbw
            have C := fun (wx : World) (hx : Below w.heap.size w wx) => Lib.hid (IH.out v (by omega) d0 d1 d2 d3 d4 wx B (Nat.le_trans HB0.out hx.size) (VAt.below (hx.mono HB0.out) _ _ _ _ _ _ hV))
            have hs2 := W64_two (T + preM m q) nm.size (sizeV v)
            have hs1 := W64_plus (T + preM m q) nm.size
            have hs0 := W64_add (T + preM m q + nm.size) (sizeV v)
            have hnx := Lib.hid (preM_next hv)
            clear hV hvN hv hbw hF hnm hblt h4
            go_wp2_with fail
            go_region_held3 (fun w' => w'.cell? ⟨w.heap.size, 4, none⟩ = some (.slice (some ⟨b, o, none⟩) m.len c') ∧ w'.cell? ⟨b, o + q * 6, none⟩ = some (.string nm) ∧ w'.cell? ⟨b, o + q * 6 + 1, none⟩ = some d0 ∧ w'.cell? ⟨b, o + q * 6 + 1 + 1, none⟩ = some d1 ∧ w'.cell? ⟨b, o + q * 6 + 1 + 2, none⟩ = some d2 ∧ w'.cell? ⟨b, o + q * 6 + 1 + 3, none⟩ = some d3 ∧ w'.cell? ⟨b, o + q * 6 + 1 + 4, none⟩ = some d4 ∧ KM w (.string s) (.slice A l.len c) (.slice (some ⟨b, o, none⟩) m.len c') b (o + q * 6) (.string nm) d0 d1 d2 d3 d4 w')
              (first
                | exact KM.written (hE.next HBW.out (Below.drew (Below.refl _ _)))
                | exact KM.written ((hE.next HBW.out (Below.drew (Below.refl _ _))).next HBW.out (by assumption))
                | exact KM.written (hE.next HBW.out (by assumption))
                | exact KM.written (KM.next (by assumption) HBW.out (by assumption))
                | go_keep)
              ((first | (go_at_call 13; refine (C _ (by first | exact Below.drew (KM.below hE) | exact KM.below (by assumption))).out.mono ?_; rintro e w' ⟨rfl, hb⟩)))
            all_goals
              have HKM : KM w (.string s) (.slice A l.len c) (.slice (some ⟨b, o, none⟩) m.len c') b (o + q * 6) (.string nm) d0 d1 d2 d3 d4 w' := And.right (And.right (And.right (And.right (And.right (And.right (And.right (by assumption)))))))
              have HKB := Lib.hid HKM.2.2.2
              clear HKM hE C hs2 hs1 hs0 f4 f5 f6 f7 f8 f9 f10
              go_wp2_with fail
              go_roundg g
              case measure => omega
              case rel => exact ⟨q + 1, by omega, by go_num, by rw [hnx.out, ← Nat.add_assoc, ← Nat.add_assoc], HKB.out⟩
      | succ g =>
        have hqn : q < l.len := by omega
        have hqn' : (q : Int) < (l.len : Int) := by omega
        obtain ⟨v, hv⟩ := VL.get_lt hqn
        have hvN := sizeL_get hv
        obtain ⟨b, o, d0, d1, d2, d3, d4, rfl, hblt, hF, hV⟩ := LAt.at (LAt.below (HBB.out.mono HB0.out) _ _ _ HL.out) hv
        rw [Nat.zero_add] at hF
        obtain ⟨g0, g1, g2, g3, g4⟩ := hF
        have C := Lib.hid (IH.out v (by omega) d0 d1 d2 d3 d4 wr B (Nat.le_trans HB0.out HBB.out.size) hV)
        have hsum := W64_add (1 + s.size + preL l q) (sizeV v)
        have hnx := Lib.hid (preL_next hv)
        clear hV hvN hv
        go_wp2_with fail
        refine C.out.mono ?_
        rintro e w2 ⟨rfl, hb2⟩
        have K2 := Lib.hid (K.out.next hb2)
        clear hb2 h2 h3 h4 g0 g1 g2 g3 g4
        go_wp2_with fail
        go_roundg g
        case measure => omega
        case rel => exact ⟨q + 1, by omega, by go_num, by rw [hnx.out, ← Nat.add_assoc], K2.out⟩
end Go.Proofs.Ytohkimibphleaaa
