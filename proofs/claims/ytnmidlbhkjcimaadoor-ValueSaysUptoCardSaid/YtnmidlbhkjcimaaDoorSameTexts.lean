/- The walk of seinekeep.SameTexts: are two slices the same strings? It only reads. -/
import Derived.Test.YtnmidlbhkjcimaaDoorStrs
namespace Go.Proofs.YtnmidlbhkjcimaaDoor.Blk
open Go.RowKit

set_option maxRecDepth 100000 in
set_option maxHeartbeats 1000000 in
theorem sameTexts_eqlen (A B : Option Addr) (n c d : Nat) (xs ys : List ByteArray) (w : World) (hn : n ≤ 100000) (ha : StrsAt w w.heap.size A n xs) (hb : StrsAt w w.heap.size B n ys) :
    Calls Tryd.prog 16 #[.slice A n c, .slice B n d] w fun e w' => e = .returned (.bool (decide (xs = ys))) ∧ Below w.heap.size w w' := by
  have HA := Lib.hid ha
  have HB := Lib.hid hb
  clear ha hb
  have e0 : ((n : Int) != (n : Int)) = false := by simp
  go_enter Tryd.func16, Tryd.ntmps16
  go_wp2
  go_loopg [5] n (fun g i wx => ∃ k : Nat, k + g = n ∧ i = .int .i64 k ∧ (∃ m, w.drewN m = wx) ∧ Aside (xs.take k = ys.take k))
  case atStart => exact ⟨0, by omega, rfl, ⟨0, rfl⟩, Aside.intro (by simp)⟩
  case round =>
    obtain ⟨k, hk, rfl, ⟨m, rfl⟩, H⟩ := hrel
    cases gk with
    | zero =>
      obtain rfl : k = n := by omega
      have hd : Hid (decide (xs = ys) = true) := Lib.hid (by
        have h := H.out
        rw [List.take_of_length_le (by rw [HA.out.1]; omega), List.take_of_length_le (by rw [HB.out.1]; omega)] at h
        simpa using h)
      clear H
      go_wp2
      go_ret
      exact ⟨ret_bool hd.out.symm, below_draws (Below.refl _ _) m⟩
    | succ g =>
      have hlt : k < n := by omega
      have hlt' : (k : Int) < (n : Int) := by omega
      have hk0 : (0 : Int) ≤ (k : Int) := by omega
      obtain ⟨x, hx⟩ : ∃ x, xs[k]? = some x := ⟨_, List.getElem?_eq_getElem (by rw [HA.out.1]; omega)⟩
      obtain ⟨y, hy⟩ : ∃ y, ys[k]? = some y := ⟨_, List.getElem?_eq_getElem (by rw [HB.out.1]; omega)⟩
      obtain ⟨b1, o1, rfl, hl1, c1⟩ := HA.out.2 k x hx
      obtain ⟨b2, o2, rfl, hl2, c2⟩ := HB.out.2 k y hy
      have HX := Lib.hid hx
      have HY := Lib.hid hy
      clear hx hy
      by_cases hxy : x = y
      · subst hxy
        have e1 : (x.toList != x.toList) = false := by simp
        have e1' : (x.toList == x.toList) = true := by simp
        have hT := Lib.hid (take_both H.out HX.out HY.out)
        clear H
        go_wp2
        go_quiet (fail)
        go_wp2
        go_roundg g
        case measure => omega
        case rel => exact ⟨k + 1, by omega, by go_num, ⟨_, rfl⟩, Aside.intro hT.out⟩
      · have hne : x.toList ≠ y.toList := fun h => hxy (by
          rw [Lib.toList_data, Lib.toList_data] at h
          exact ByteArray.ext (Array.toList_inj.1 h))
        have e1 : (x.toList != y.toList) = true := by simpa using hne
        have e1' : (x.toList == y.toList) = false := by simpa using hne
        clear hne
        have hd : Hid (decide (xs = ys) = false) := Lib.hid (by
          simp only [decide_eq_false_iff_not]
          intro h
          rw [h, HY.out] at HX
          exact hxy (by have := HX.out; injection this with this; exact this.symm))
        clear H hxy
        go_wp2
        go_quiet (fail)
        go_wp2
        go_ret
        exact ⟨ret_bool hd.out.symm, below_draws (below_draws (Below.refl _ _) _) _⟩
theorem sameTexts_any (A B : Option Addr) (n m c d : Nat) (xs ys : List ByteArray) (w : World) (hn : n ≤ 100000) (ha : StrsAt w w.heap.size A n xs) (hb : StrsAt w w.heap.size B m ys) :
    Calls Tryd.prog 16 #[.slice A n c, .slice B m d] w fun e w' => e = .returned (.bool (decide (xs = ys))) ∧ Below w.heap.size w w' := by
  by_cases h : n = m
  · subst h; exact sameTexts_eqlen A B n c d xs ys w hn ha hb
  · have hd : Hid (decide (xs = ys) = false) := Lib.hid (by
      simp only [decide_eq_false_iff_not]
      intro e
      exact h (by rw [← ha.1, ← hb.1, e]))
    have e0 : ((n : Int) != (m : Int)) = true := by simp; omega
    clear h ha hb
    go_enter Tryd.func16, Tryd.ntmps16
    go_wp2
    go_ret
    exact ⟨ret_bool hd.out.symm, Below.refl _ _⟩
end Go.Proofs.YtnmidlbhkjcimaaDoor.Blk
