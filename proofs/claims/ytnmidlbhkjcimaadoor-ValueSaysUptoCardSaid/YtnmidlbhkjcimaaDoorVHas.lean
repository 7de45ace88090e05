/- The document's Has, and texts in a row. -/
import Derived.Test.YtnmidlbhkjcimaaDoorZVars
import Derived.Test.YtnmidlbhkjcimaaDoorSameTexts
namespace Go.Proofs.YtnmidlbhkjcimaaDoor
open Go.RowKit

theorem hasN_take {xs : List ByteArray} {s x : ByteArray} {k : Nat} (h : hasN (xs.take k) s = false) (hx : xs[k]? = some x) (hne : ¬ x = s) : hasN (xs.take (k + 1)) s = false := by
  cases h' : hasN (xs.take (k + 1)) s with
  | false => rfl
  | true =>
    have := hasN_iff.1 h'
    rw [List.take_add_one, hx] at this
    rcases List.mem_append.1 this with h1 | h1
    · rw [hasN_iff.2 h1] at h; cases h
    · simp at h1; exact absurd h1.symm hne
set_option maxRecDepth 100000 in
theorem has_any (A : Option Addr) (n c : Nat) (xs : List ByteArray) (s : ByteArray) (w : World) (hn : n ≤ 100000) (ha : Blk.StrsAt w w.heap.size A n xs) :
    Calls Tryd.prog 53 #[.slice A n c, .string s] w fun e w' => e = .returned (.bool (hasN xs s)) ∧ Below w.heap.size w w' := by
  have HA := Lib.hid ha
  clear ha
  go_enter Tryd.func53, Tryd.ntmps53
  go_wp2_with fail
  go_loopg [5] n (fun g i wx => ∃ k : Nat, k + g = n ∧ i = .int .i64 k ∧ (∃ m, w.drewN m = wx) ∧ Aside (hasN (xs.take k) s = false))
  case atStart => exact ⟨0, by omega, rfl, ⟨0, rfl⟩, Blk.Aside.intro (by rw [List.take_zero]; rfl)⟩
  case round =>
    obtain ⟨k, hk, rfl, ⟨m, rfl⟩, H⟩ := hrel
    cases gk with
    | zero =>
      obtain rfl : k = n := by omega
      have hd : Hid (hasN xs s = false) := Lib.hid (by
        have h := H.out
        rwa [List.take_of_length_le (by rw [HA.out.1]; omega)] at h)
      clear H
      go_wp2_with fail
      go_ret
      exact ⟨Blk.ret_bool hd.out.symm, Blk.below_draws (Below.refl _ _) m⟩
    | succ g =>
      have hlt : k < n := by omega
      have hlt' : (k : Int) < (n : Int) := by omega
      obtain ⟨x, hx⟩ : ∃ x, xs[k]? = some x := ⟨_, List.getElem?_eq_getElem (by rw [HA.out.1]; omega)⟩
      obtain ⟨b1, o1, rfl, hl1, c1⟩ := HA.out.2 k x hx
      have HX := Lib.hid hx
      clear hx
      by_cases hxy : x = s
      · subst hxy
        have e1' : (x.toList == x.toList) = true := by simp
        have hT : Hid (hasN xs x = true) := Lib.hid (hasN_iff.2 (List.mem_of_getElem? HX.out))
        clear H
        go_wp2_with fail
        go_ret
        exact ⟨Blk.ret_bool hT.out.symm, Blk.below_draws (Below.refl _ _) _⟩
      · have hne : x.toList ≠ s.toList := fun h => hxy (by
          rw [Lib.toList_data, Lib.toList_data] at h
          exact ByteArray.ext (Array.toList_inj.1 h))
        have e1' : (x.toList == s.toList) = false := by simpa using hne
        clear hne
        have hT := Lib.hid (hasN_take H.out HX.out hxy)
        clear H hxy
        go_wp2_with fail
        go_roundg g
        case measure => omega
        case rel => exact ⟨k + 1, by omega, by go_num, ⟨_, rfl⟩, Blk.Aside.intro hT.out⟩
end Go.Proofs.YtnmidlbhkjcimaaDoor
