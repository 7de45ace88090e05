/- The walk of the document's Depth. -/
import Derived.Test.YtnmidlbhkjcimaaDoorVBox
namespace Go.Proofs.YtnmidlbhkjcimaaDoor
open Go.RowKit

def RDepC (v : VT) : Prop := ∀ (c0 c1 c2 c3 c4 : Value) (w : World) (B : Nat), B ≤ w.heap.size → VAt w B v c0 c1 c2 c3 c4 →
  Calls Tryd.prog 15 #[.agg #[c0, c1, c2, c3, c4]] w fun e w' => e = .returned (.int .i64 (depV v)) ∧ Below w.heap.size w w'
set_option maxRecDepth 100000 in
set_option maxHeartbeats 4000000 in
theorem rdep_step (N : Nat) (hN : N + 1 ≤ 9000) (H : ∀ u, sizeV u ≤ N → RDepC u) : ∀ u, sizeV u ≤ N + 1 → RDepC u := by
  intro u hu c0 c1 c2 c3 c4 w B hB hv
  have HS := Lib.hid H
  have HB0 := Lib.hid hB
  have HU0 := Lib.hid hu
  obtain ⟨k, n, s, l, m⟩ := u
  unfold VAt at hv
  obtain ⟨rfl, rfl, rfl, _, ⟨A, c, rfl, hl, hL⟩, A', c', rfl, hm, hM⟩ := hv
  have HL := Lib.hid hL
  have HM := Lib.hid hM
  have hks := size_kids (.mk k n s l m)
  have hdz := Nat.le_trans (depL_size (VT.kids (.mk k n s l m))) (Nat.le_of_succ_le (Nat.le_trans hks hu))
  have hlz := Nat.le_trans (len_size (VT.kids (.mk k n s l m))) (Nat.le_of_succ_le (Nat.le_trans hks hu))
  have hkg := Lib.hid (fun (x : VT) (j : Nat) (h : (VT.kids (.mk k n s l m)).get j = some x) => kids_get_size h)
  obtain ⟨ob, hob⟩ : ∃ ob, ob = (.cells #[.int .i64 k, .int .i64 n, .string s, .slice A l.len c, .slice A' m.len c'] 25 : Obj) := ⟨_, rfl⟩
  have K0 : Hid (KBx w ob (w.alloc (.cells #[.int .i64 k, .int .i64 n, .string s, .slice A l.len c, .slice A' m.len c'] 25))) := Lib.hid (hob ▸ KBx.start w _)
  have hob := Lib.hid hob
  clear H hB hL hM hu hks
  by_cases h6 : k = 6
  · subst h6
    have hD : Hid (depV (.mk 6 n s l m) = depL l + 1) := Lib.hid (by rw [dep_kids _ _ _ _ _ (.inl rfl), kids_list])
    rw [kids_list] at hdz hlz hkg
    generalize VT.mk 6 n s l m = U at *
    have HU := HU0
    · go_enter Tryd.func15, Tryd.ntmps15
      go_wp2_with fail
      go_loopg [3, 4] l.len (fun g mo i wx => ∃ q : Nat, q + g = l.len ∧ i = .int .i64 q ∧ mo = .int .i64 (depTo l q) ∧ Aside (KBx w ob wx))
      case atStart => exact ⟨0, by omega, rfl, by rw [depTo_zero]; rfl, vaside K0.out⟩
      case round =>
        obtain ⟨q, hq, rfl, rfl, HA⟩ := hrel
        have KX := Lib.hid HA.out
        clear HA K0
        obtain ⟨f0, f1, f2, f3, f4⟩ := (hob.out ▸ KX.out).five
        cases gk with
        | zero =>
          obtain rfl : q = l.len := by omega
          rw [depTo_all]
          have hd : Hid (depV U = depL l + 1) := hD
          go_wp2_with fail
          go_ret
          exact ⟨ret_int (by rw [hd.out]; omega), KX.out.low⟩
        | succ g =>
          have hqn : q < l.len := by omega
          have hqn' : (q : Int) < (l.len : Int) := by omega
          obtain ⟨x, hx⟩ := VL.get_lt hqn
          have hxs := hkg.out x q hx
          have hnx := Lib.hid (depTo_next hx)
          obtain ⟨b, o, d0, d1, d2, d3, d4, hA, hblt, hF, hV⟩ := LAt.at HL.out hx
          subst hA
          rw [Nat.zero_add] at hF
          have hlow := KX.out.low.mono HB0.out
          obtain ⟨e0, e1, e2, e3, e4⟩ := hF.below hlow hblt
          have C := Lib.hid (HS.out x (by have := HU.out; omega) d0 d1 d2 d3 d4 _ B (Nat.le_trans HB0.out KX.out.low.size) (VAt.below hlow _ _ _ _ _ _ hV))
          obtain ⟨xk, xn, xs, xl, xm⟩ := x
          unfold VAt at hV
          obtain ⟨rfl, rfl, rfl, _, ⟨A3, c3', rfl, _, _⟩, A4, c4', rfl, _, _⟩ := hV
          have hmx := max_nat (depTo l q) (depV (.mk xk xn xs xl xm))
          clear hx hxs hF hlow
          go_wp2_with fail
          refine C.out.mono ?_
          rintro e w2 ⟨rfl, hb2⟩
          have K2 := Lib.hid (KX.out.next hb2)
          clear hb2 C e0 e1 e2 e3 e4 f0 f1 f2 f3 f4
          go_wp2_with fail
          go_roundg g
          case measure => omega
          case rel => exact ⟨q + 1, by omega, by go_num, by rw [hnx.out], vaside K2.out⟩
  · by_cases h7 : k = 7
    · subst h7
      have hD : Hid (depV (.mk 7 n s l m) = depL m.vals + 1) := Lib.hid (by rw [dep_kids _ _ _ _ _ (.inr rfl), kids_map])
      rw [kids_map] at hdz hlz hkg
      rw [VM.len_vals] at hlz
      generalize VT.mk 7 n s l m = U at *
      have HU := HU0
      clear h6
      go_enter Tryd.func15, Tryd.ntmps15
      go_wp2_with fail
      go_loopg [3, 5] m.len (fun g mo i wx => ∃ q : Nat, q + g = m.len ∧ i = .int .i64 q ∧ mo = .int .i64 (depTo m.vals q) ∧ Aside (KBx w ob wx))
      case atStart => exact ⟨0, by omega, rfl, by rw [depTo_zero]; rfl, vaside K0.out⟩
      case round =>
        obtain ⟨q, hq, rfl, rfl, HA⟩ := hrel
        have KX := Lib.hid HA.out
        clear HA K0
        obtain ⟨f0, f1, f2, f3, f4⟩ := (hob.out ▸ KX.out).five
        cases gk with
        | zero =>
          obtain rfl : q = m.len := by omega
          rw [show depTo m.vals m.len = depL m.vals from (VM.len_vals m) ▸ depTo_all m.vals]
          have hd : Hid (depV U = depL m.vals + 1) := hD
          go_wp2_with fail
          go_ret
          exact ⟨ret_int (by rw [hd.out]; omega), KX.out.low⟩
        | succ g =>
          have hqn : q < m.len := by omega
          have hqn' : (q : Int) < (m.len : Int) := by omega
          obtain ⟨⟨nm, x⟩, hx⟩ := VM.get_lt hqn
          have hxv := VM.get_vals hx
          have hxs := hkg.out x q hxv
          have hnx := Lib.hid (depTo_next hxv)
          obtain ⟨b, o, d0, d1, d2, d3, d4, hA, hblt, hnm, _, hF, hV⟩ := MAt.at HM.out hx
          subst hA
          rw [Nat.zero_add] at hF hnm
          have hlow := KX.out.low.mono HB0.out
          obtain ⟨e0, e1, e2, e3, e4⟩ := hF.below hlow hblt
          have C := Lib.hid (HS.out x (by have := HU.out; omega) d0 d1 d2 d3 d4 _ B (Nat.le_trans HB0.out KX.out.low.size) (VAt.below hlow _ _ _ _ _ _ hV))
          obtain ⟨xk, xn, xs, xl, xm⟩ := x
          unfold VAt at hV
          obtain ⟨rfl, rfl, rfl, _, ⟨A3, c3', rfl, _, _⟩, A4, c4', rfl, _, _⟩ := hV
          have hmx := max_nat (depTo m.vals q) (depV (.mk xk xn xs xl xm))
          clear hx hxs hF hlow hxv hnm
          go_wp2_with fail
          refine C.out.mono ?_
          rintro e w2 ⟨rfl, hb2⟩
          have K2 := Lib.hid (KX.out.next hb2)
          clear hb2 C e0 e1 e2 e3 e4 f0 f1 f2 f3 f4
          go_wp2_with fail
          go_roundg g
          case measure => omega
          case rel => exact ⟨q + 1, by omega, by go_num, by rw [hnx.out], vaside K2.out⟩
    · have e6 : (k == 6) = false := by simpa using h6
      have e7 : (k == 7) = false := by simpa using h7
      have hd : Hid (depV (.mk k n s l m) = 0) := Lib.hid (by rw [depV, if_neg h6, if_neg h7])
      clear h6 h7 hkg hdz hlz
      go_enter Tryd.func15, Tryd.ntmps15
      go_wp2_with fail
      go_ret
      exact ⟨ret_int (by rw [hd.out]; rfl), K0.out.low⟩
theorem rdep_all : ∀ N, N ≤ 9000 → ∀ u, sizeV u ≤ N → RDepC u
  | 0, _, u, h => by cases u; rw [sizeV] at h; omega
  | N + 1, hN, u, h => rdep_step N hN (rdep_all N (by omega)) u h
theorem rdep_any (u : VT) (h : sizeV u ≤ 9000) : RDepC u := rdep_all 9000 (Nat.le_refl _) u h
end Go.Proofs.YtnmidlbhkjcimaaDoor
