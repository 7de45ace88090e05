/- seineref1.Has: a name among names. -/
import Derived.Test.YtohkimibphleaaaGrSpr
import Derived.Lib.Strings
namespace Go.Proofs.Ytohkimibphleaaa
open Go.RowKit

set_option maxRecDepth 100000 in
set_option maxHeartbeats 8000000 in
theorem has_any (base : Nat) (V : Value) (out : List ByteArray) (s : ByteArray) (w : World) (h : w.ownsRow base 9 1 V out.length (out.map .string)) (hl : out.length ≤ 1099511627776) :
    Calls Try.prog 10 #[V, .string s] w fun e w' => e = .returned (.bool (inN out s)) ∧ Below w.heap.size w w' := by
  obtain ⟨A, c, rfl⟩ := shape_own h
  have H := Lib.hid h
  clear h
  go_enter Try.func10, Try.ntmps10
  go_wp2_with fail
  go_loopg [5] out.length (fun g t wx => ∃ q : Nat, q + g = out.length ∧ t = .int .i64 q ∧ Asd (Below w.heap.size w wx ∧ inN (out.take q) s = false))
  case atStart => exact ⟨0, by omega, rfl, Asd.intro ⟨Below.refl _ _, rfl⟩⟩
  case round =>
    obtain ⟨q, hq, rfl, HX⟩ := hrel
    have BL := Lib.hid HX.out.1
    have HN := Lib.hid HX.out.2
    clear HX
    cases gk with
    | zero =>
      obtain rfl : q = out.length := by omega
      have hn := HN.out
      rw [List.take_length] at hn
      go_wp2_with fail
      go_ret
      exact ⟨by rw [hn]; rfl, BL.out⟩
    | succ g =>
      have hqn : q < out.length := by omega
      have hqn' : (q : Int) < (out.length : Int) := by omega
      obtain ⟨t, hx⟩ : ∃ t, out[q]? = some t := ⟨_, List.getElem?_eq_getElem hqn⟩
      have OX := own_low H.out BL.out
      obtain ⟨g1, cp, e1⟩ := (World.ownsRow.form OX (by omega))
      injection e1.1 with e2 e3 e4
      subst e2 e4
      have hsc := OX.cells (g := g1) rfl q (.string t) (by rw [List.getElem?_map, hx]; rfl)
      rw [add_at, Nat.zero_add] at hsc
      have htk : inN (out.take (q + 1)) s = (t.data.toList == s.data.toList) := by
        have hn := HN.out
        unfold inN at hn ⊢
        rw [List.take_add_one, hx, List.any_append, hn]
        simp
      have hall : (t.data.toList == s.data.toList) = true → inN out s = true := fun h => by
        unfold inN
        rw [List.any_eq_true]
        exact ⟨t, List.mem_of_getElem? hx, h⟩
      have HTK := Lib.hid htk
      have HAL := Lib.hid hall
      clear hx e1 OX htk hall
      by_cases he : t = s
      rotate_left
      · have hne : t.toList ≠ s.toList := fun h => he (by rw [Lib.toList_data, Lib.toList_data] at h; exact ByteArray.ext (Array.toList_inj.1 h))
        have e1 : (t.toList == s.toList) = false := by simpa using hne
        have e2 : inN (out.take (q + 1)) s = false := by rw [HTK.out]; exact beq_eq_false_iff_ne.2 (fun e => he (ByteArray.ext (Array.toList_inj.1 e)))
        have HE := Lib.hid e2
        clear e2 he
        go_wp2_with fail
        go_roundg g
        case measure => omega
        case rel => exact ⟨q + 1, by omega, by go_num, Asd.intro ⟨BL.out, HE.out⟩⟩
      · have e1 : (t.toList == s.toList) = true := by rw [he]; simp
        have e2 : inN out s = true := HAL.out (by rw [he]; simp)
        have HE := Lib.hid e2
        clear e2 he
        go_wp2_with fail
        go_ret
        exact ⟨by rw [HE.out]; rfl, BL.out⟩
end Go.Proofs.Ytohkimibphleaaa
