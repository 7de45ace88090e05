/- Small words on strings for the walks of token: the rest of a string, its first byte. -/
import Derived.Test.YtcdcfhplkimecaaDoorTFacts
import Derived.Test.YtcdcfhplkimecaaDoorTShelf
import Derived.Test.YtcdcfhplkimecaaDoorEach
import Derived.Test.YtcdcfhplkimecaaDoorJoin
import Derived.Laws.AppendOwn
import Derived.Laws.AppendOwnNone
import Derived.Deep.AppendLies
import Derived.Deep.QuietTactic
import Derived.BigQuiet
import Derived.Deep.Draws
namespace Go.Proofs.YtcdcfhplkimecaaDoor
open Go.RowKit

theorem len_data (s : ByteArray) : s.data.toList.length = s.size := Array.length_toList
theorem ext_size (s : ByteArray) (k : Nat) : (s.extract k s.size).size = s.size - k := by simp
theorem ext_data (s : ByteArray) (k : Nat) : (s.extract k s.size).data.toList = s.data.toList.drop k := by
  simp [ByteArray.data_extract, Array.toList_extract, List.extract]
  rw [← len_data s]
  simp
  exact List.take_of_length_le (by simp)
theorem ext_take (s : ByteArray) (n : Nat) : (s.extract 0 n).data.toList = s.data.toList.take n := by
  simp [ByteArray.data_extract, Array.toList_extract, List.extract]
theorem drop_at (s : ByteArray) (k : Nat) (h : k < s.size) : s.data.toList.drop k = s[k] :: s.data.toList.drop (k + 1) := by
  have hl : k < s.data.toList.length := by rw [len_data]; exact h
  rw [List.drop_eq_getElem_cons hl]
  rfl
theorem cons_at (s : ByteArray) (h : 0 < s.size) : s.data.toList = s[0] :: s.data.toList.drop 1 := by
  have := drop_at s 0 h
  rwa [List.drop_zero] at this
theorem drop_all (s : ByteArray) (k : Nat) (h : s.size ≤ k) : s.data.toList.drop k = [] := List.drop_eq_nil_of_le (by rw [len_data]; exact h)
theorem nil_of_size {s : ByteArray} (h : s.size = 0) : s.data.toList = [] := List.eq_nil_of_length_eq_zero (by rw [len_data]; exact h)
theorem empty_yes {s : ByteArray} (h : s.size = 0) : s.toList.isEmpty = true := by
  rw [Lib.toList_data, nil_of_size h]; rfl
theorem empty_no {s : ByteArray} (h : 0 < s.size) : s.toList.isEmpty = false := by
  rw [Lib.toList_data, cons_at s h]; rfl
theorem size_mk (l : List UInt8) : (⟨l.toArray⟩ : ByteArray).size = l.length := by
  show l.toArray.size = _
  simp
theorem mk_of {s : ByteArray} {l : List UInt8} (h : s.data.toList = l) : (⟨l.toArray⟩ : ByteArray) = s := by subst h; simp
def headB (p : UInt8 → Bool) : List UInt8 → Bool
  | [] => false
  | b :: _ => p b
theorem ret_b {a b : Bool} {w : World} (h : a = b) : Ending.returned (.bool a) = .returned (.bool b) ∧ w = w := ⟨by rw [h], rfl⟩
theorem ret_i {a b : Int} (h : a = b) : Ending.returned (.int .i64 a) = .returned (.int .i64 b) := by rw [h]

theorem digU_and (b : UInt8) : digU b = (decide ((48 : Int) ≤ (b.toNat : Int)) && decide ((b.toNat : Int) ≤ (57 : Int))) := by unfold digU digB; rw [Bool.decide_and]

theorem tdigit_any (s : ByteArray) (w : World) : Calls Tryd.prog 83 #[.string s] w fun e w' => e = .returned (.bool (headB digU s.data.toList)) ∧ w = w' := by
  rcases Nat.eq_zero_or_pos s.size with h0 | h0
  · have hr : headB digU s.data.toList = false := by rw [nil_of_size h0]; rfl
    have he := empty_yes h0
    rw [hr]
    clear hr
    go_enter Tryd.func83, Tryd.ntmps83
    go_wp2
    go_ret
    exact ⟨rfl, rfl⟩
  · have hr : headB digU s.data.toList = digU s[0] := by rw [cons_at s h0]; rfl
    have he := empty_no h0
    rw [hr]
    have HD : Hid (digU s[0] = (decide ((48 : Int) ≤ (s[0].toNat : Int)) && decide ((s[0].toNat : Int) ≤ (57 : Int)))) := Lib.hid (digU_and _)
    clear hr
    by_cases c1 : (48 : Int) ≤ (s[0].toNat : Int)
    · by_cases c2 : (s[0].toNat : Int) ≤ (57 : Int)
      · go_enter Tryd.func83, Tryd.ntmps83
        go_wp2
        go_ret
        exact ret_b (by rw [HD.out]; simp [c1, c2])
      · go_enter Tryd.func83, Tryd.ntmps83
        go_wp2
        go_ret
        exact ret_b (by rw [HD.out]; simp [c1, c2])
    · go_enter Tryd.func83, Tryd.ntmps83
      go_wp2
      go_ret
      exact ret_b (by rw [HD.out]; simp; omega)
theorem tletter_any (s : ByteArray) (w : World) : Calls Tryd.prog 84 #[.string s] w fun e w' => e = .returned (.bool (headB letU s.data.toList)) ∧ w = w' := by
  rcases Nat.eq_zero_or_pos s.size with h0 | h0
  · have hr : headB letU s.data.toList = false := by rw [nil_of_size h0]; rfl
    have he := empty_yes h0
    rw [hr]
    clear hr
    go_enter Tryd.func84, Tryd.ntmps84
    go_wp2
    go_ret
    exact ⟨rfl, rfl⟩
  · have hr : nameB (s.extract 0 1).data.toList = headB letU s.data.toList := by rw [ext_take, cons_at s h0]; simp [headB, nameB, tailB, letU]
    have he := empty_no h0
    have h1 : 1 ≤ s.size := h0
    have hN := name_any (s.extract 0 1) w (by simp; omega)
    rw [hr] at hN
    have HN := Lib.hid hN
    clear hr hN
    go_enter Tryd.func84, Tryd.ntmps84
    go_wp2_with fail
    refine HN.out.mono ?_
    rintro e w1 ⟨rfl, rfl⟩
    go_wp2_with fail
    go_ret
    exact ⟨rfl, rfl⟩
end Go.Proofs.YtcdcfhplkimecaaDoor
