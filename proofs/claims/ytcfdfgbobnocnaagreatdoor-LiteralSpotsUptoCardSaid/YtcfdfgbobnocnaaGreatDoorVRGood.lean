/- The walk of the document's GoodValue: all. (gen_rgood.py) -/
import Derived.Test.YtcfdfgbobnocnaaGreatDoorVRGoodC
namespace Go.Proofs.YtcfdfgbobnocnaaGreatDoor
open Go.RowKit

set_option maxRecDepth 100000 in
set_option maxHeartbeats 8000000 in
theorem rgood_k5 (n : Int) (s : ByteArray) (l : VL) (m : VM) (hs : s.size ≤ 9000) (zl : l.len = 0) (zm : m.len = 0) : RGoodC (.mk 5 n s l m) := by
  have h6 : (5 : Int) ≠ 6 := by decide
  have h7 : (5 : Int) ≠ 7 := by decide
  intro c0 c1 c2 c3 c4 w B hB hv
  have hfit : fitV goodB (.mk 5 n s l m) = soundB 5 n s.data.toList l.len m.len := fit_leaf h6 h7
  rw [hfit]
  clear hfit
  unfold VAt at hv
  obtain ⟨rfl, rfl, rfl, _, ⟨A, c, rfl, hl, hL⟩, A', c', rfl, hm, hM⟩ := hv
  rw [zl, zm]
  have hG := fun wx => rgood_any s wx hs
  have hN := fun wx => rname_any s wx (by omega)
  have hD := fun wx => rnumber_any s wx hs
  have hI := fun wx => rint64_any s wx hs
  have K0 := Lib.hid (KBx.start w (.cells #[.int .i64 5, .int .i64 n, .string s, .slice A 0 c, .slice A' 0 c'] 30))
  obtain ⟨b1, h1⟩ : ∃ b, (n == 0) = b := ⟨_, rfl⟩
  obtain ⟨b2, h2⟩ : ∃ b, s.toList.isEmpty = b := ⟨_, rfl⟩
  obtain ⟨b5, h5⟩ : ∃ b, (n == 1) = b := ⟨_, rfl⟩
  obtain ⟨b7, h7'⟩ : ∃ b, goodB s.data.toList = b := ⟨_, rfl⟩
  obtain ⟨b9, h9⟩ : ∃ b, nameB s.data.toList = b := ⟨_, rfl⟩
  have g2 : s.data.toList.isEmpty = b2 := by rw [← Lib.toList_data]; exact h2
  rw [h7'] at hG
  rw [h9] at hN
  have G := fun wx => Lib.hid (hG wx)
  have N := fun wx => Lib.hid (hN wx)
  clear hL hM hG hN hB
  clear h6 h7
  clear zl zm
  have hr : Hid (soundB 5 n s.data.toList 0 0 = (b1 && enumB s.data.toList && true && true)) := Lib.hid (by rw [soundB, if_neg (by omega), if_neg (by omega), if_neg (by omega), if_neg (by omega), if_neg (by omega), if_pos rfl, h1] <;> rfl)
  obtain ⟨x1, y1⟩ : ∃ b, (s.toList == [110, 117, 108, 108]) = b := ⟨_, rfl⟩
  obtain ⟨x2, y2⟩ : ∃ b, (s.toList == [116, 114, 117, 101]) = b := ⟨_, rfl⟩
  obtain ⟨x3, y3⟩ : ∃ b, (s.toList == [102, 97, 108, 115, 101]) = b := ⟨_, rfl⟩
  rw [enum_said h9 y1 y2 y3] at hr
  clear g2 h2 h5 h7' h9 hD hI G
  cases b1 with
  | false =>
    have x0 : (n != 0) = true := by simpa [bne] using h1
    go_enter Tryz.func25, Tryz.ntmps25
    go_wp2_with fail
    go_ret
    exact ⟨ret_bool (by rw [hr.out]; simp), K0.out.low⟩
  | true =>
    obtain rfl : n = 0 := by simpa using h1
    cases b9 with
    | false =>
      go_enter Tryz.func25, Tryz.ntmps25
      go_wp2_with (go_at_call 40; refine (N _).out.mono ?_; rintro e w1 ⟨rfl, rfl⟩)
      go_ret
      exact ⟨ret_bool (by rw [hr.out]; simp), K0.out.low⟩
    | true =>
      cases x2 with
      | false =>
        cases x3 with
        | false =>
          cases x1 with
          | false =>
            go_enter Tryz.func25, Tryz.ntmps25
            go_wp2_with (go_at_call 40; refine (N _).out.mono ?_; rintro e w1 ⟨rfl, rfl⟩)
            go_ret
            exact ⟨ret_bool (by rw [hr.out]; simp), K0.out.low⟩
          | true =>
            go_enter Tryz.func25, Tryz.ntmps25
            go_wp2_with (go_at_call 40; refine (N _).out.mono ?_; rintro e w1 ⟨rfl, rfl⟩)
            go_ret
            exact ⟨ret_bool (by rw [hr.out]; simp), K0.out.low⟩
        | true =>
          go_enter Tryz.func25, Tryz.ntmps25
          go_wp2_with (go_at_call 40; refine (N _).out.mono ?_; rintro e w1 ⟨rfl, rfl⟩)
          go_ret
          exact ⟨ret_bool (by rw [hr.out]; simp), K0.out.low⟩
      | true =>
        go_enter Tryz.func25, Tryz.ntmps25
        go_wp2_with (go_at_call 40; refine (N _).out.mono ?_; rintro e w1 ⟨rfl, rfl⟩)
        go_ret
        exact ⟨ret_bool (by rw [hr.out]; simp), K0.out.low⟩
set_option maxRecDepth 100000 in
set_option maxHeartbeats 8000000 in
theorem rgood_k8 (n : Int) (s : ByteArray) (l : VL) (m : VM) (hs : s.size ≤ 9000) (zl : l.len = 0) (zm : m.len = 0) : RGoodC (.mk 8 n s l m) := by
  have h6 : (8 : Int) ≠ 6 := by decide
  have h7 : (8 : Int) ≠ 7 := by decide
  intro c0 c1 c2 c3 c4 w B hB hv
  have hfit : fitV goodB (.mk 8 n s l m) = soundB 8 n s.data.toList l.len m.len := fit_leaf h6 h7
  rw [hfit]
  clear hfit
  unfold VAt at hv
  obtain ⟨rfl, rfl, rfl, _, ⟨A, c, rfl, hl, hL⟩, A', c', rfl, hm, hM⟩ := hv
  rw [zl, zm]
  have hG := fun wx => rgood_any s wx hs
  have hN := fun wx => rname_any s wx (by omega)
  have hD := fun wx => rnumber_any s wx hs
  have hI := fun wx => rint64_any s wx hs
  have K0 := Lib.hid (KBx.start w (.cells #[.int .i64 8, .int .i64 n, .string s, .slice A 0 c, .slice A' 0 c'] 30))
  obtain ⟨b1, h1⟩ : ∃ b, (n == 0) = b := ⟨_, rfl⟩
  obtain ⟨b2, h2⟩ : ∃ b, s.toList.isEmpty = b := ⟨_, rfl⟩
  obtain ⟨b5, h5⟩ : ∃ b, (n == 1) = b := ⟨_, rfl⟩
  obtain ⟨b7, h7'⟩ : ∃ b, goodB s.data.toList = b := ⟨_, rfl⟩
  obtain ⟨b9, h9⟩ : ∃ b, nameB s.data.toList = b := ⟨_, rfl⟩
  have g2 : s.data.toList.isEmpty = b2 := by rw [← Lib.toList_data]; exact h2
  rw [h7'] at hG
  rw [h9] at hN
  have G := fun wx => Lib.hid (hG wx)
  have N := fun wx => Lib.hid (hN wx)
  clear hL hM hG hN hB
  clear h6 h7
  clear zl zm
  have hr : Hid (soundB 8 n s.data.toList 0 0 = (b1 && b9 && true && true)) := Lib.hid (by rw [soundB, if_neg (by omega), if_neg (by omega), if_neg (by omega), if_neg (by omega), if_neg (by omega), if_neg (by omega), if_neg (by omega), if_neg (by omega), if_pos rfl, h1, h9] <;> rfl)
  clear g2 h2 h5 h7' h9 hD hI G
  cases b1 with
  | false =>
    have x0 : (n != 0) = true := by simpa [bne] using h1
    go_enter Tryz.func25, Tryz.ntmps25
    go_wp2_with fail
    go_ret
    exact ⟨ret_bool (by rw [hr.out]; simp), K0.out.low⟩
  | true =>
    obtain rfl : n = 0 := by simpa using h1
    go_enter Tryz.func25, Tryz.ntmps25
    go_wp2_with (go_at_call 40; refine (N _).out.mono ?_; rintro e w1 ⟨rfl, rfl⟩)
    go_ret
    exact ⟨ret_bool (by rw [hr.out]; simp), K0.out.low⟩
set_option maxRecDepth 100000 in
set_option maxHeartbeats 8000000 in
theorem rgood_oth (k n : Int) (s : ByteArray) (l : VL) (m : VM) (h6 : k ≠ 6) (h7 : k ≠ 7) (k0 : k ≠ 0) (k1 : k ≠ 1) (k2 : k ≠ 2) (k3 : k ≠ 3) (k4 : k ≠ 4) (k5 : k ≠ 5) (k8 : k ≠ 8) (hs : s.size ≤ 9000) (zl : l.len = 0) (zm : m.len = 0) : RGoodC (.mk k n s l m) := by
  intro c0 c1 c2 c3 c4 w B hB hv
  have hfit : fitV goodB (.mk k n s l m) = soundB k n s.data.toList l.len m.len := fit_leaf h6 h7
  rw [hfit]
  clear hfit
  unfold VAt at hv
  obtain ⟨rfl, rfl, rfl, _, ⟨A, c, rfl, hl, hL⟩, A', c', rfl, hm, hM⟩ := hv
  rw [zl, zm]
  have hG := fun wx => rgood_any s wx hs
  have hN := fun wx => rname_any s wx (by omega)
  have hD := fun wx => rnumber_any s wx hs
  have hI := fun wx => rint64_any s wx hs
  have K0 := Lib.hid (KBx.start w (.cells #[.int .i64 k, .int .i64 n, .string s, .slice A 0 c, .slice A' 0 c'] 30))
  obtain ⟨b1, h1⟩ : ∃ b, (n == 0) = b := ⟨_, rfl⟩
  obtain ⟨b2, h2⟩ : ∃ b, s.toList.isEmpty = b := ⟨_, rfl⟩
  obtain ⟨b5, h5⟩ : ∃ b, (n == 1) = b := ⟨_, rfl⟩
  obtain ⟨b7, h7'⟩ : ∃ b, goodB s.data.toList = b := ⟨_, rfl⟩
  obtain ⟨b9, h9⟩ : ∃ b, nameB s.data.toList = b := ⟨_, rfl⟩
  have g2 : s.data.toList.isEmpty = b2 := by rw [← Lib.toList_data]; exact h2
  rw [h7'] at hG
  rw [h9] at hN
  have G := fun wx => Lib.hid (hG wx)
  have N := fun wx => Lib.hid (hN wx)
  clear hL hM hG hN hB
  clear zl zm
  have e6 : (k == 6) = false := by simpa using h6
  have e7 : (k == 7) = false := by simpa using h7
  have y1 : (k != 1) = true := by simpa using k1
  have y2 : (k != 2) = true := by simpa using k2
  have y6 : (k != 6) = true := by simpa using h6
  have y7 : (k != 7) = true := by simpa using h7
  have hr : Hid (soundB k n s.data.toList 0 0 = false) := Lib.hid (by rw [soundB, if_neg k0, if_neg k1, if_neg k2, if_neg k3, if_neg k4, if_neg k5, if_neg h6, if_neg h7, if_neg k8])
  have e0 : (k == 0) = false := by simpa using k0
  have e1 : (k == 1) = false := by simpa using k1
  have e2 : (k == 2) = false := by simpa using k2
  have e3 : (k == 3) = false := by simpa using k3
  have e4 : (k == 4) = false := by simpa using k4
  have e5 : (k == 5) = false := by simpa using k5
  have e8 : (k == 8) = false := by simpa using k8
  clear g2 h2 h5 h7' h9 hD hI G N k0 k1 k2 k3 k4 k5 k8 h6 h7
  by_cases hn : n = 0
  rotate_left
  · have x0 : (n != 0) = true := by simpa [bne] using hn
    clear hn h1
    go_enter Tryz.func25, Tryz.ntmps25
    go_wp2_with fail
    go_ret
    exact ⟨ret_bool (by rw [hr.out]), K0.out.low⟩
  · subst hn
    clear h1
    go_enter Tryz.func25, Tryz.ntmps25
    go_wp2_with fail
    go_ret
    exact ⟨ret_bool (by rw [hr.out]), K0.out.low⟩
end Go.Proofs.YtcfdfgbobnocnaaGreatDoor
namespace Go.Proofs.YtcfdfgbobnocnaaGreatDoor
open Go.RowKit

set_option maxRecDepth 100000 in
set_option maxHeartbeats 8000000 in
theorem rgood_list (N : Nat) (hN : N + 1 ≤ 9000) (H : ∀ u, sizeV u ≤ N → RGoodC u) (n : Int) (s : ByteArray) (l : VL) (m : VM) (hu : sizeV (.mk 6 n s l m) ≤ N + 1) : RGoodC (.mk 6 n s l m) := by
  intro c0 c1 c2 c3 c4 w B hB hv
  have HS := Lib.hid H
  have HB0 := Lib.hid hB
  have hszz : s.size ≤ 9000 ∧ sizeL l ≤ N ∧ sizeM m ≤ N := by rw [sizeV] at hu; omega
  unfold VAt at hv
  obtain ⟨rfl, rfl, rfl, _, ⟨A, c, rfl, hl, hL⟩, A', c', rfl, hm, hM⟩ := hv
  have HL := Lib.hid hL
  have HM := Lib.hid hM
  have hll := Nat.le_trans (len_size l) hszz.2.1
  have hmm := Nat.le_trans (lenM_le m) hszz.2.2
  have hzL := Lib.hid (fun (x : VT) (j : Nat) (h : l.get j = some x) => Nat.le_trans (sizeL_get h) hszz.2.1)
  have hzM := Lib.hid (fun (nm : ByteArray) (x : VT) (j : Nat) (h : m.get j = some (nm, x)) => Nat.le_trans (vget_size h) hszz.2.2)
  have hfit : Hid (fitV goodB (.mk 6 n s l m) = (soundB 6 n s.data.toList l.len m.len && fitL goodB l)) := Lib.hid fit_list6
  generalize VT.mk 6 n s l m = U at *
  have K0 := Lib.hid (KBx.start w (.cells #[.int .i64 6, .int .i64 n, .string s, .slice A l.len c, .slice A' m.len c'] 30))
  obtain ⟨b1, h1⟩ : ∃ b, (n == 0) = b := ⟨_, rfl⟩
  obtain ⟨b2, h2⟩ : ∃ b, s.toList.isEmpty = b := ⟨_, rfl⟩
  have g2 : s.data.toList.isEmpty = b2 := by rw [← Lib.toList_data]; exact h2
  clear H hB hL hM hu hszz
  by_cases zo : m.len = 0
  rotate_left
  · have zo' : (m.len : Int) > 0 := by omega
    have hr : Hid (soundB 6 n s.data.toList l.len m.len = false) := Lib.hid (by cases e : soundB 6 n s.data.toList l.len m.len with
      | false => rfl
      | true => exact absurd (sound_m e (by omega)) zo)
    clear zo g2 h2 hll hmm
    by_cases hn : n = 0
    rotate_left
    · have x0 : (n != 0) = true := by simpa [bne] using hn
      clear hn h1
      go_enter Tryz.func25, Tryz.ntmps25
      go_wp2_with fail
      go_ret
      exact ⟨ret_bool (by rw [hfit.out, hr.out]; rfl), K0.out.low⟩
    · subst hn
      clear h1
      go_enter Tryz.func25, Tryz.ntmps25
      go_wp2_with fail
      go_ret
      exact ⟨ret_bool (by rw [hfit.out, hr.out]; rfl), K0.out.low⟩
  have g4 : (m.len == 0) = true := by simpa using zo
  have hr : Hid (soundB 6 n s.data.toList l.len m.len = (b1 && b2 && true)) := Lib.hid (by rw [soundB, if_neg (by omega), if_neg (by omega), if_neg (by omega), if_neg (by omega), if_neg (by omega), if_neg (by omega), if_pos rfl, g4, h1, g2])
  clear K0
  have K0 := Lib.hid (KBx.start w (.cells #[.int .i64 6, .int .i64 n, .string s, .slice A l.len c, .slice A' 0 c'] 30))
  rw [zo]
  clear zo g4 g2
  cases b1 with
  | false =>
    have x0 : (n != 0) = true := by simpa [bne] using h1
    go_enter Tryz.func25, Tryz.ntmps25
    go_wp2_with fail
    go_ret
    exact ⟨ret_bool (by rw [hfit.out, hr.out]; rfl), K0.out.low⟩
  | true =>
  obtain rfl : n = 0 := by simpa using h1
  cases b2 with
  | false =>
    go_enter Tryz.func25, Tryz.ntmps25
    go_wp2_with fail
    go_ret
    exact ⟨ret_bool (by rw [hfit.out, hr.out]; rfl), K0.out.low⟩
  | true =>
  have hfit' : Hid (fitV goodB U = fitL goodB l) := Lib.hid (by rw [hfit.out, hr.out]; rfl)
  clear hfit hr
  go_enter Tryz.func25, Tryz.ntmps25
  go_wp2_with fail
  go_loopg [6] l.len (fun g i wx => ∃ q : Nat, q + g = l.len ∧ i = .int .i64 q ∧ Aside (KBx w (.cells #[.int .i64 6, .int .i64 0, .string s, .slice A l.len c, .slice A' 0 c'] 30) wx ∧ ∀ (j : Nat) v, j < q → l.get j = some v → fitV goodB v = true))
  case atStart => exact ⟨0, by omega, rfl, vaside ⟨K0.out, fun j v h => absurd h (Nat.not_lt_zero _)⟩⟩
  case round =>
    obtain ⟨q, hq, rfl, HA⟩ := hrel
    have KX := Lib.hid HA.out.1
    have HQ := Lib.hid HA.out.2
    clear HA K0
    obtain ⟨f0, f1, f2, f3, f4⟩ := KX.out.five
    cases gk with
    | zero =>
      obtain rfl : q = l.len := by omega
      have hn : Hid (fitL goodB l = true) := Lib.hid (fitL_yes (fun j v hj => HQ.out j v (VL.lt_get hj) hj))
      clear HQ
      go_wp2_with fail
      go_ret
      exact ⟨ret_bool (by rw [hfit'.out, hn.out]), KX.out.low⟩
    | succ g =>
      have hqn : q < l.len := by omega
      have hqn' : (q : Int) < (l.len : Int) := by omega
      obtain ⟨x, hx⟩ := VL.get_lt hqn
      have hxs := hzL.out x q hx
      have hno := Lib.hid (fun h => fitL_no (p := goodB) hx h)
      have hyes := Lib.hid (fun (h : fitV goodB x = true) (j : Nat) v (hj : j < q + 1) (hg : l.get j = some v) => show fitV goodB v = true from by
        rcases Nat.lt_or_ge j q with h' | h'
        · exact HQ.out j v h' hg
        · obtain rfl : j = q := by omega
          rw [hx] at hg
          cases hg
          exact h)
      obtain ⟨b, o, d0, d1, d2, d3, d4, hA, hblt, hF, hV⟩ := LAt.at HL.out hx
      subst hA
      rw [Nat.zero_add] at hF
      have hlow := KX.out.low.mono HB0.out
      obtain ⟨e0, e1, e2, e3, e4⟩ := hF.below hlow hblt
      have C := Lib.hid (HS.out x (by omega) d0 d1 d2 d3 d4 _ B (Nat.le_trans HB0.out KX.out.low.size) (VAt.below hlow _ _ _ _ _ _ hV))
      obtain ⟨xk, xn, xs, xl, xm⟩ := x
      unfold VAt at hV
      obtain ⟨rfl, rfl, rfl, _, ⟨A3, c3', rfl, _, _⟩, A4, c4', rfl, _, _⟩ := hV
      obtain ⟨y, hy⟩ : ∃ y, fitV goodB (.mk xk xn xs xl xm) = y := ⟨_, rfl⟩
      rw [hy] at C hno hyes
      clear hx hF hlow hy HQ
      go_wp2_with fail
      refine C.out.mono ?_
      rintro e w2 ⟨rfl, hb2⟩
      have K2 := Lib.hid (KX.out.next hb2)
      clear hb2 C e0 e1 e2 e3 e4 f0 f1 f2 f3 f4
      cases y
      · have hn := Lib.hid (hno.out rfl)
        go_wp2_with fail
        go_ret
        exact ⟨ret_bool (by rw [hfit'.out, hn.out]), K2.out.low⟩
      · go_wp2_with fail
        go_roundg g
        case measure => omega
        case rel => exact ⟨q + 1, by omega, by go_num, vaside ⟨K2.out, hyes.out (by trivial)⟩⟩
end Go.Proofs.YtcfdfgbobnocnaaGreatDoor
namespace Go.Proofs.YtcfdfgbobnocnaaGreatDoor
open Go.RowKit

set_option maxRecDepth 100000 in
set_option maxHeartbeats 8000000 in
theorem rgood_map (N : Nat) (hN : N + 1 ≤ 9000) (H : ∀ u, sizeV u ≤ N → RGoodC u) (n : Int) (s : ByteArray) (l : VL) (m : VM) (hu : sizeV (.mk 7 n s l m) ≤ N + 1) : RGoodC (.mk 7 n s l m) := by
  intro c0 c1 c2 c3 c4 w B hB hv
  have HS := Lib.hid H
  have HB0 := Lib.hid hB
  have hszz : s.size ≤ 9000 ∧ sizeL l ≤ N ∧ sizeM m ≤ N := by rw [sizeV] at hu; omega
  unfold VAt at hv
  obtain ⟨rfl, rfl, rfl, _, ⟨A, c, rfl, hl, hL⟩, A', c', rfl, hm, hM⟩ := hv
  have HL := Lib.hid hL
  have HM := Lib.hid hM
  have hll := Nat.le_trans (len_size l) hszz.2.1
  have hmm := Nat.le_trans (lenM_le m) hszz.2.2
  have hzL := Lib.hid (fun (x : VT) (j : Nat) (h : l.get j = some x) => Nat.le_trans (sizeL_get h) hszz.2.1)
  have hzM := Lib.hid (fun (nm : ByteArray) (x : VT) (j : Nat) (h : m.get j = some (nm, x)) => Nat.le_trans (vget_size h) hszz.2.2)
  have hfit : Hid (fitV goodB (.mk 7 n s l m) = (soundB 7 n s.data.toList l.len m.len && fitM goodB m)) := Lib.hid fit_map7
  generalize VT.mk 7 n s l m = U at *
  have K0 := Lib.hid (KBx.start w (.cells #[.int .i64 7, .int .i64 n, .string s, .slice A l.len c, .slice A' m.len c'] 30))
  obtain ⟨b1, h1⟩ : ∃ b, (n == 0) = b := ⟨_, rfl⟩
  obtain ⟨b2, h2⟩ : ∃ b, s.toList.isEmpty = b := ⟨_, rfl⟩
  have g2 : s.data.toList.isEmpty = b2 := by rw [← Lib.toList_data]; exact h2
  clear H hB hL hM hu hszz
  by_cases zo : l.len = 0
  rotate_left
  · have zo' : (l.len : Int) > 0 := by omega
    have hr : Hid (soundB 7 n s.data.toList l.len m.len = false) := Lib.hid (by cases e : soundB 7 n s.data.toList l.len m.len with
      | false => rfl
      | true => exact absurd (sound_l e (by omega)) zo)
    clear zo g2 h2 hll hmm
    by_cases hn : n = 0
    rotate_left
    · have x0 : (n != 0) = true := by simpa [bne] using hn
      clear hn h1
      go_enter Tryz.func25, Tryz.ntmps25
      go_wp2_with fail
      go_ret
      exact ⟨ret_bool (by rw [hfit.out, hr.out]; rfl), K0.out.low⟩
    · subst hn
      clear h1
      go_enter Tryz.func25, Tryz.ntmps25
      go_wp2_with fail
      go_ret
      exact ⟨ret_bool (by rw [hfit.out, hr.out]; rfl), K0.out.low⟩
  have g4 : (l.len == 0) = true := by simpa using zo
  have hr : Hid (soundB 7 n s.data.toList l.len m.len = (b1 && b2 && true)) := Lib.hid (by rw [soundB, if_neg (by omega), if_neg (by omega), if_neg (by omega), if_neg (by omega), if_neg (by omega), if_neg (by omega), if_neg (by omega), if_pos rfl, g4, h1, g2])
  clear K0
  have K0 := Lib.hid (KBx.start w (.cells #[.int .i64 7, .int .i64 n, .string s, .slice A 0 c, .slice A' m.len c'] 30))
  rw [zo]
  clear zo g4 g2
  cases b1 with
  | false =>
    have x0 : (n != 0) = true := by simpa [bne] using h1
    go_enter Tryz.func25, Tryz.ntmps25
    go_wp2_with fail
    go_ret
    exact ⟨ret_bool (by rw [hfit.out, hr.out]; rfl), K0.out.low⟩
  | true =>
  obtain rfl : n = 0 := by simpa using h1
  cases b2 with
  | false =>
    go_enter Tryz.func25, Tryz.ntmps25
    go_wp2_with fail
    go_ret
    exact ⟨ret_bool (by rw [hfit.out, hr.out]; rfl), K0.out.low⟩
  | true =>
  have hfit' : Hid (fitV goodB U = fitM goodB m) := Lib.hid (by rw [hfit.out, hr.out]; rfl)
  clear hfit hr
  go_enter Tryz.func25, Tryz.ntmps25
  go_wp2_with fail
  go_loopg [7] m.len (fun g i wx => ∃ q : Nat, q + g = m.len ∧ i = .int .i64 q ∧ Aside (KBx w (.cells #[.int .i64 7, .int .i64 0, .string s, .slice A 0 c, .slice A' m.len c'] 30) wx ∧ ∀ (j : Nat) nm v, j < q → m.get j = some (nm, v) → (goodB nm.data.toList && fitV goodB v) = true))
  case atStart => exact ⟨0, by omega, rfl, vaside ⟨K0.out, fun j nm v h => absurd h (Nat.not_lt_zero _)⟩⟩
  case round =>
    obtain ⟨q, hq, rfl, HA⟩ := hrel
    have KX := Lib.hid HA.out.1
    have HQ := Lib.hid HA.out.2
    clear HA K0
    obtain ⟨f0, f1, f2, f3, f4⟩ := KX.out.five
    cases gk with
    | zero =>
      obtain rfl : q = m.len := by omega
      have hn : Hid (fitM goodB m = true) := Lib.hid (fitM_yes (fun j nm v hj => HQ.out j nm v (by rw [← VM.len_vals]; exact VL.lt_get (VM.get_vals hj)) hj))
      clear HQ
      go_wp2_with fail
      go_ret
      exact ⟨ret_bool (by rw [hfit'.out, hn.out]), KX.out.low⟩
    | succ g =>
      have hqn : q < m.len := by omega
      have hqn' : (q : Int) < (m.len : Int) := by omega
      obtain ⟨⟨nm, x⟩, hx⟩ := VM.get_lt hqn
      have hxs := hzM.out nm x q hx
      have hno := Lib.hid (fun h => fitM_no (p := goodB) hx h)
      have hyes := Lib.hid (fun (h : (goodB nm.data.toList && fitV goodB x) = true) (j : Nat) nm' v (hj : j < q + 1) (hg : m.get j = some (nm', v)) => show (goodB nm'.data.toList && fitV goodB v) = true from by
        rcases Nat.lt_or_ge j q with h' | h'
        · exact HQ.out j nm' v h' hg
        · obtain rfl : j = q := by omega
          rw [hx] at hg
          cases hg
          exact h)
      obtain ⟨b, o, d0, d1, d2, d3, d4, hA, hblt, hnm, _, hF, hV⟩ := MAt.at HM.out hx
      subst hA
      rw [Nat.zero_add] at hF hnm
      have hlow := KX.out.low.mono HB0.out
      have HF := Lib.hid (fun wx (hw : Below B w wx) => hF.below hw hblt)
      have HV0 := Lib.hid hV
      have e5 := (hlow.cell (p := ⟨b, o + q * 6, none⟩) hblt).trans hnm
      have CN := Lib.hid (fun wx => rgood_any nm wx (by omega))
      have C := Lib.hid (fun wx (K : Below w.heap.size w wx) => HS.out x (by omega) d0 d1 d2 d3 d4 wx B (Nat.le_trans HB0.out K.size) (VAt.below (K.mono HB0.out) _ _ _ _ _ _ HV0.out))
      obtain ⟨xk, xn, xs, xl, xm⟩ := x
      unfold VAt at hV
      obtain ⟨rfl, rfl, rfl, _, ⟨A3, c3', rfl, _, _⟩, A4, c4', rfl, _, _⟩ := hV
      obtain ⟨y, hy⟩ : ∃ y, fitV goodB (.mk xk xn xs xl xm) = y := ⟨_, rfl⟩
      obtain ⟨z, hz⟩ : ∃ z, goodB nm.data.toList = z := ⟨_, rfl⟩
      rw [hy] at C hno hyes
      rw [hz] at CN hno hyes
      clear hx hF hlow hnm hy hz HQ HV0
      go_wp2_with fail
      refine (CN.out _).mono ?_
      rintro e w2 ⟨rfl, hb2⟩
      have K2 := Lib.hid (KX.out.next hb2)
      clear hb2 f0 f1 f2 f3 f4 e5 KX
      obtain ⟨f0, f1, f2, f3, f4⟩ := K2.out.five
      cases z
      · have hn := Lib.hid (hno.out rfl)
        go_wp2_with fail
        go_ret
        exact ⟨ret_bool (by rw [hfit'.out, hn.out]), K2.out.low⟩
      · obtain ⟨e0, e1, e2, e3, e4⟩ := HF.out _ (K2.out.low.mono HB0.out)
        go_wp2_with fail
        refine (C.out _ K2.out.low).mono ?_
        rintro e w3 ⟨rfl, hb3⟩
        have K3 := Lib.hid (K2.out.next hb3)
        clear hb3 C e0 e1 e2 e3 e4 f0 f1 f2 f3 f4
        cases y
        · have hn := Lib.hid (hno.out rfl)
          go_wp2_with fail
          go_ret
          exact ⟨ret_bool (by rw [hfit'.out, hn.out]), K3.out.low⟩
        · go_wp2_with fail
          go_roundg g
          case measure => omega
          case rel => exact ⟨q + 1, by omega, by go_num, vaside ⟨K3.out, hyes.out (by trivial)⟩⟩
end Go.Proofs.YtcfdfgbobnocnaaGreatDoor
namespace Go.Proofs.YtcfdfgbobnocnaaGreatDoor
open Go.RowKit

theorem rgood_all : ∀ N, N ≤ 9000 → ∀ u, sizeV u ≤ N → RGoodC u
  | 0, _, u, h => by cases u; rw [sizeV] at h; omega
  | N + 1, hN, .mk k n s l m, h => by
    by_cases h6 : k = 6
    · subst h6; exact rgood_list N hN (rgood_all N (by omega)) n s l m h
    · by_cases h7 : k = 7
      · subst h7; exact rgood_map N hN (rgood_all N (by omega)) n s l m h
      · have hs : s.size ≤ 9000 := by rw [sizeV] at h; omega
        by_cases zl : l.len = 0
        · by_cases zm : m.len = 0
          · by_cases k0 : k = 0
            · subst k0; exact rgood_k0 n s l m hs zl zm
            by_cases k1 : k = 1
            · subst k1; exact rgood_k1 n s l m hs zl zm
            by_cases k2 : k = 2
            · subst k2; exact rgood_k2 n s l m hs zl zm
            by_cases k3 : k = 3
            · subst k3; exact rgood_k3 n s l m hs zl zm
            by_cases k4 : k = 4
            · subst k4; exact rgood_k4 n s l m hs zl zm
            by_cases k5 : k = 5
            · subst k5; exact rgood_k5 n s l m hs zl zm
            by_cases k8 : k = 8
            · subst k8; exact rgood_k8 n s l m hs zl zm
            exact rgood_oth k n s l m h6 h7 k0 k1 k2 k3 k4 k5 k8 hs zl zm
          · exact rgood_zm k n s l m h6 h7 hs zl zm
        · exact rgood_zl k n s l m h6 h7 hs zl
theorem rgoodv_any (u : VT) (h : sizeV u ≤ 9000) : RGoodC u := rgood_all 9000 (Nat.le_refl _) u h
end Go.Proofs.YtcfdfgbobnocnaaGreatDoor
