/- The walk of the document's named. -/
import Derived.Test.YtnmidlbhkjcimaaDoorVBox
import Derived.Test.YtnmidlbhkjcimaaDoorRCodes
namespace Go.Proofs.YtnmidlbhkjcimaaDoor
open Go.RowKit

theorem namedL_no {p : List UInt8 → Bool} : ∀ {l : VL} {j : Nat} {v : VT}, l.get j = some v → namedV p v = false → namedL p l = false
  | .nil, _, _, h, _ => by simp [VL.get] at h
  | .cons u t, 0, v, h, h2 => by
    have : u = v := by simpa [VL.get] using h
    subst this
    rw [namedL, h2]; rfl
  | .cons u t, j + 1, v, h, h2 => by rw [namedL, namedL_no (l := t) (j := j) h h2]; simp
theorem namedL_yes {p : List UInt8 → Bool} : ∀ {l : VL}, (∀ (j : Nat) v, l.get j = some v → namedV p v = true) → namedL p l = true
  | .nil, _ => rfl
  | .cons u t, h => by rw [namedL, h 0 u rfl, namedL_yes (l := t) (fun j v hj => h (j + 1) v hj)]; rfl
theorem namedM_no {p : List UInt8 → Bool} : ∀ {l : VM} {j : Nat} {nm : ByteArray} {v : VT}, l.get j = some (nm, v) → (p nm.data.toList && namedV p v) = false → namedM p l = false
  | .nil, _, _, _, h, _ => by simp [VM.get] at h
  | .cons a u t, 0, nm, v, h, h2 => by
    have : a = nm ∧ u = v := by simpa [VM.get] using h
    obtain ⟨rfl, rfl⟩ := this
    rw [namedM, h2]; rfl
  | .cons a u t, j + 1, nm, v, h, h2 => by rw [namedM, namedM_no (l := t) (j := j) h h2]; simp
theorem namedM_yes {p : List UInt8 → Bool} : ∀ {l : VM}, (∀ (j : Nat) nm v, l.get j = some (nm, v) → (p nm.data.toList && namedV p v) = true) → namedM p l = true
  | .nil, _ => rfl
  | .cons a u t, h => by rw [namedM, h 0 a u rfl, namedM_yes (l := t) (fun j nm v hj => h (j + 1) nm v hj)]; rfl
theorem vget_size : ∀ {l : VM} {j : Nat} {nm : ByteArray} {v : VT}, l.get j = some (nm, v) → nm.size + sizeV v ≤ sizeM l
  | .nil, _, _, _, h => by simp [VM.get] at h
  | .cons a u t, 0, nm, v, h => by
    have : a = nm ∧ u = v := by simpa [VM.get] using h
    obtain ⟨rfl, rfl⟩ := this
    rw [sizeM]; omega
  | .cons a u t, j + 1, nm, v, h => by
    have := vget_size (l := t) (j := j) h
    rw [sizeM]; omega
def RNamC (v : VT) : Prop := ∀ (c0 c1 c2 c3 c4 : Value) (w : World) (B : Nat), B ≤ w.heap.size → VAt w B v c0 c1 c2 c3 c4 →
  Calls Tryd.prog 30 #[.agg #[c0, c1, c2, c3, c4]] w fun e w' => e = .returned (.bool (namedV nameB v)) ∧ Below w.heap.size w w'
set_option maxRecDepth 100000 in
set_option maxHeartbeats 4000000 in
theorem rnam_step (N : Nat) (hN : N + 1 ≤ 9000) (H : ∀ u, sizeV u ≤ N → RNamC u) : ∀ u, sizeV u ≤ N + 1 → RNamC u := by
  intro u hu c0 c1 c2 c3 c4 w B hB hv
  have HS := Lib.hid H
  have HB0 := Lib.hid hB
  obtain ⟨k, n, s, l, m⟩ := u
  have hszz : sizeL l ≤ N ∧ sizeM m ≤ N := by rw [sizeV] at hu; omega
  unfold VAt at hv
  obtain ⟨rfl, rfl, rfl, _, ⟨A, c, rfl, hl, hL⟩, A', c', rfl, hm, hM⟩ := hv
  have HL := Lib.hid hL
  have HM := Lib.hid hM
  have hll := Nat.le_trans (len_size l) hszz.1
  have hmm := Nat.le_trans (lenM_le m) hszz.2
  have hzL := Lib.hid (fun (x : VT) (j : Nat) (h : l.get j = some x) => Nat.le_trans (sizeL_get h) hszz.1)
  have hzM := Lib.hid (fun (nm : ByteArray) (x : VT) (j : Nat) (h : m.get j = some (nm, x)) => Nat.le_trans (vget_size h) hszz.2)
  have hnv : Hid (namedV nameB (.mk k n s l m) = (namedL nameB l && namedM nameB m)) := Lib.hid (by rw [namedV])
  generalize VT.mk k n s l m = U at *
  have K0 := Lib.hid (KBx.start w (.cells #[.int .i64 k, .int .i64 n, .string s, .slice A l.len c, .slice A' m.len c'] 25))
  clear H hB hL hM hu hszz
  go_enter Tryd.func30, Tryd.ntmps30
  go_wp2_with fail
  go_loopg [3] l.len (fun g i wx => ∃ q : Nat, q + g = l.len ∧ i = .int .i64 q ∧ Aside (KBx w (.cells #[.int .i64 k, .int .i64 n, .string s, .slice A l.len c, .slice A' m.len c'] 25) wx ∧ ∀ (j : Nat) v, j < q → l.get j = some v → namedV nameB v = true))
  case atStart => exact ⟨0, by omega, rfl, vaside ⟨K0.out, fun j v h => absurd h (Nat.not_lt_zero _)⟩⟩
  case round =>
    obtain ⟨q, hq, rfl, HA⟩ := hrel
    have KX := Lib.hid HA.out.1
    have HQ := Lib.hid HA.out.2
    clear HA K0
    obtain ⟨f0, f1, f2, f3, f4⟩ := KX.out.five
    cases gk with
    | zero =>
      obtain rfl : q = l.len := by omega
      have hnl : Hid (namedL nameB l = true) := Lib.hid (namedL_yes (fun j v hj => HQ.out j v (VL.lt_get hj) hj))
      clear HQ
      go_wp2_with fail
      clear f0 f1 f2 f3 f4
      go_loopg [4] m.len (fun g i wx => ∃ q : Nat, q + g = m.len ∧ i = .int .i64 q ∧ Aside (KBx w (.cells #[.int .i64 k, .int .i64 n, .string s, .slice A l.len c, .slice A' m.len c'] 25) wx ∧ ∀ (j : Nat) nm v, j < q → m.get j = some (nm, v) → (nameB nm.data.toList && namedV nameB v) = true))
      case atStart => exact ⟨0, by omega, rfl, vaside ⟨KX.out, fun j nm v h => absurd h (Nat.not_lt_zero _)⟩⟩
      case round =>
        obtain ⟨q, hq, rfl, HA⟩ := hrel
        have KY := Lib.hid HA.out.1
        have HQ := Lib.hid HA.out.2
        clear HA KX
        obtain ⟨f0, f1, f2, f3, f4⟩ := KY.out.five
        cases gk with
        | zero =>
          obtain rfl : q = m.len := by omega
          have hnm : Hid (namedM nameB m = true) := Lib.hid (namedM_yes (fun j nm v hj => HQ.out j nm v (by rw [← VM.len_vals]; exact VL.lt_get (VM.get_vals hj)) hj))
          clear HQ
          go_wp2_with fail
          go_ret
          exact ⟨ret_bool (by rw [hnv.out, hnl.out, hnm.out]; rfl), KY.out.low⟩
        | succ g =>
          have hqn : q < m.len := by omega
          have hqn' : (q : Int) < (m.len : Int) := by omega
          obtain ⟨⟨nm, x⟩, hx⟩ := VM.get_lt hqn
          have hxs := hzM.out nm x q hx
          have hno := Lib.hid (fun h => namedM_no (p := nameB) hx h)
          have hyes := Lib.hid (fun (h : (nameB nm.data.toList && namedV nameB x) = true) (j : Nat) nm' v (hj : j < q + 1) (hg : m.get j = some (nm', v)) => show (nameB nm'.data.toList && namedV nameB v) = true from by
            rcases Nat.lt_or_ge j q with h' | h'
            · exact HQ.out j nm' v h' hg
            · obtain rfl : j = q := by omega
              rw [hx] at hg
              cases hg
              exact h)
          obtain ⟨b, o, d0, d1, d2, d3, d4, hA, hblt, hnm, _, hF, hV⟩ := MAt.at HM.out hx
          subst hA
          rw [Nat.zero_add] at hF hnm
          have hlow := KY.out.low.mono HB0.out
          obtain ⟨e0, e1, e2, e3, e4⟩ := hF.below hlow hblt
          have e5 := (hlow.cell (p := ⟨b, o + q * 6, none⟩) hblt).trans hnm
          have CN := Lib.hid (fun wx => rname_any nm wx (by omega))
          have C := Lib.hid (HS.out x (by omega) d0 d1 d2 d3 d4 _ B (Nat.le_trans HB0.out KY.out.low.size) (VAt.below hlow _ _ _ _ _ _ hV))
          obtain ⟨xk, xn, xs, xl, xm⟩ := x
          unfold VAt at hV
          obtain ⟨rfl, rfl, rfl, _, ⟨A3, c3', rfl, _, _⟩, A4, c4', rfl, _, _⟩ := hV
          obtain ⟨y, hy⟩ : ∃ y, namedV nameB (.mk xk xn xs xl xm) = y := ⟨_, rfl⟩
          obtain ⟨z, hz⟩ : ∃ z, nameB nm.data.toList = z := ⟨_, rfl⟩
          rw [hy] at C hno hyes
          rw [hz] at CN hno hyes
          clear hx hF hlow hnm hy hz HQ
          cases z
          · have hn := Lib.hid (hno.out rfl)
            go_wp2_with fail
            refine (CN.out _).mono ?_
            rintro e w2 ⟨rfl, rfl⟩
            go_wp2_with fail
            go_ret
            exact ⟨ret_bool (by rw [hnv.out, hn.out, Bool.and_false]), KY.out.low⟩
          · go_wp2_with fail
            refine (CN.out _).mono ?_
            rintro e w2 ⟨rfl, rfl⟩
            go_wp2_with fail
            refine C.out.mono ?_
            rintro e w2 ⟨rfl, hb2⟩
            have K2 := Lib.hid (KY.out.next hb2)
            clear hb2 C e0 e1 e2 e3 e4 e5 f0 f1 f2 f3 f4
            cases y
            · have hn := Lib.hid (hno.out rfl)
              go_wp2_with fail
              go_ret
              exact ⟨ret_bool (by rw [hnv.out, hn.out, Bool.and_false]), K2.out.low⟩
            · go_wp2_with fail
              go_roundg g
              case measure => omega
              case rel => exact ⟨q + 1, by omega, by go_num, vaside ⟨K2.out, hyes.out (by trivial)⟩⟩
    | succ g =>
      have hqn : q < l.len := by omega
      have hqn' : (q : Int) < (l.len : Int) := by omega
      obtain ⟨x, hx⟩ := VL.get_lt hqn
      have hxs := hzL.out x q hx
      have hno := Lib.hid (fun h => namedL_no (p := nameB) hx h)
      have hyes := Lib.hid (fun (h : namedV nameB x = true) (j : Nat) v (hj : j < q + 1) (hg : l.get j = some v) => show namedV nameB v = true from by
        rcases Nat.lt_or_ge j q with h' | h'
        · exact HQ.out j v h' hg
        · obtain rfl : j = q := by omega
          rw [hx] at hg
          cases hg
          exact h)
      obtain ⟨b, o, d0, d1, d2, d3, d4, hA, hblt, hF, hV⟩ := LAt.at HL.out hx
      subst hA
      rw [Nat.zero_add] at hF
      have hlow := KX.out.low.mono HB0.out
      obtain ⟨e0, e1, e2, e3, e4⟩ := hF.below hlow hblt
      have C := Lib.hid (HS.out x (by omega) d0 d1 d2 d3 d4 _ B (Nat.le_trans HB0.out KX.out.low.size) (VAt.below hlow _ _ _ _ _ _ hV))
      obtain ⟨xk, xn, xs, xl, xm⟩ := x
      unfold VAt at hV
      obtain ⟨rfl, rfl, rfl, _, ⟨A3, c3', rfl, _, _⟩, A4, c4', rfl, _, _⟩ := hV
      obtain ⟨y, hy⟩ : ∃ y, namedV nameB (.mk xk xn xs xl xm) = y := ⟨_, rfl⟩
      rw [hy] at C hno hyes
      clear hx hF hlow hy HQ
      go_wp2_with fail
      refine C.out.mono ?_
      rintro e w2 ⟨rfl, hb2⟩
      have K2 := Lib.hid (KX.out.next hb2)
      clear hb2 C e0 e1 e2 e3 e4 f0 f1 f2 f3 f4
      cases y
      · have hn := Lib.hid (hno.out rfl)
        go_wp2_with fail
        go_ret
        exact ⟨ret_bool (by rw [hnv.out, hn.out, Bool.false_and]), K2.out.low⟩
      · go_wp2_with fail
        go_roundg g
        case measure => omega
        case rel => exact ⟨q + 1, by omega, by go_num, vaside ⟨K2.out, hyes.out (by trivial)⟩⟩
theorem rnam_all : ∀ N, N ≤ 9000 → ∀ u, sizeV u ≤ N → RNamC u
  | 0, _, u, h => by cases u; rw [sizeV] at h; omega
  | N + 1, hN, u, h => rnam_step N hN (rnam_all N (by omega)) u h
theorem rnam_any (u : VT) (h : sizeV u ≤ 9000) : RNamC u := rnam_all 9000 (Nat.le_refl _) u h
end Go.Proofs.YtnmidlbhkjcimaaDoor
