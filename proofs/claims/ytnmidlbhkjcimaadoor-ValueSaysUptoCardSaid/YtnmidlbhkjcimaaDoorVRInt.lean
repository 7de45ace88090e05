/- The walk of the document's Int64. -/
import Derived.Test.YtnmidlbhkjcimaaDoorVRNum
import Derived.Test.YtnmidlbhkjcimaaDoorZMath
namespace Go.Proofs.YtnmidlbhkjcimaaDoor
open Go.RowKit

theorem kind_range (l : List UInt8) : kindL l = 0 ∨ kindL l = 3 ∨ kindL l = 4 := by
  have hz : (numeralL l).2 = 0 ∨ (numeralL l).2 = 3 ∨ (numeralL l).2 = 4 := by
    unfold numeralL
    split
    · exact .inl rfl
    · simp only
      split
      · exact .inr (.inl rfl)
      · exact .inr (.inr rfl)
  unfold kindL
  split
  · exact .inl rfl
  · unfold numberL
    split
    · exact .inl rfl
    · split
      · exact .inl rfl
      · exact hz
/-- A byte less 48, as bytes go. -/
def dW (b : UInt8) : Nat := (b.toNat + 208) % 256
theorem dW_wrap (b : UInt8) : IntKind.u8.wrap ((b.toNat : Int) - 48) = (dW b : Int) := by
  rw [IntKind.wrap_u8]; unfold dW; omega
theorem dW_dig {b : UInt8} (h : digU b = true) : dW b = b.toNat - 48 := by
  have := digU_bd h
  unfold dW; omega
def digW (a : Nat) (l : List UInt8) : Nat := l.foldl (fun a b => a * 10 + dW b) a
theorem digW_mono : ∀ (l : List UInt8) (a : Nat), a ≤ digW a l
  | [], a => Nat.le_refl _
  | b :: l, a => by
    show a ≤ digW (a * 10 + dW b) l
    have := digW_mono l (a * 10 + dW b)
    omega
theorem digW_digs : ∀ (l : List UInt8) (a : Nat), l.all digU = true → digW a l = digA a l
  | [], _, _ => rfl
  | b :: l, a, h => by
    rw [List.all_cons, Bool.and_eq_true] at h
    show digW (a * 10 + dW b) l = digA (a * 10 + (b.toNat - 48)) l
    rw [dW_dig h.1, digW_digs l _ h.2]
theorem digW_cons (a : Nat) (b : UInt8) (l : List UInt8) : digW a (b :: l) = digW (a * 10 + dW b) l := rfl
/-- Do digits behind a sign fit into 64 bits? -/
def int64B : List UInt8 → Bool
  | [] => true
  | b :: t => if b = 45 then decide (digW 0 t ≤ 9223372036854775808) else decide (digW 0 (b :: t) ≤ 9223372036854775807)
theorem int64_kind {l : List UInt8} (h : kindL l = 3) : int64B l = fits64 (intN l) := by
  obtain ⟨m, hm, hd, hne⟩ := kind_digits h
  cases l with
  | nil => rfl
  | cons b t =>
    by_cases hb : b = 45
    · subst hb
      have : m = 1 := by rw [← hm]; rfl
      subst this
      have hd' : t.all digU = true := hd
      rw [int_minus]
      rw [int64B, if_pos rfl, digW_digs t 0 hd']
      unfold fits64
      rw [show digA 0 t = digN t from rfl]
      congr 1
      exact propext ⟨fun h => by omega, fun h => by omega⟩
    · have : m = 0 := by rw [← hm]; unfold minusL; simp [hb]
      subst this
      have hd' : (b :: t).all digU = true := hd
      rw [int_digits hd']
      rw [int64B, if_neg hb, digW_digs _ 0 hd']
      unfold fits64
      rw [show digA 0 (b :: t) = digN (b :: t) from rfl]
      congr 1
      exact propext ⟨fun h => by omega, fun h => by omega⟩
theorem ret_zb {z : Int} {a b : Bool} (h : a = b) (w : World) : (∃ z', Ending.returned (.tuple #[.int .i64 z, .bool a]) = .returned (.tuple #[.int .i64 z', .bool b])) ∧ w = w := ⟨⟨z, by rw [h]⟩, rfl⟩
theorem wdrop_at (s : ByteArray) (m : Nat) (h : m < s.size) (a : Nat) : digW a (s.data.toList.drop m) = digW (a * 10 + dW s[m]) (s.data.toList.drop (m + 1)) := by
  rw [drop_at s m h]; rfl
theorem tdiv_ten (D : Int) (h0 : -9223372036854775808 ≤ D) (h1 : D ≤ 0) : 10 * Int.tdiv D 10 - 10 < D ∧ D ≤ 10 * Int.tdiv D 10 ∧ D.tdiv 10 ≤ 0 ∧ 10 * Int.tdiv D 10 < D + 10 := by
  have h : D.tdiv 10 = -((-D) / 10) := by
    rw [show D = -(-D) by omega, Int.neg_tdiv, Int.tdiv_eq_ediv_of_nonneg (by omega)]; simp
  rw [h]; omega
theorem int64_cons (s : ByteArray) (hp : 0 < s.size) : int64B s.data.toList = if s[0] = 45 then decide (digW 0 (s.data.toList.drop 1) ≤ 9223372036854775808) else decide (digW 0 (s.data.toList.drop 0) ≤ 9223372036854775807) := by
  have h := drop_at s 0 hp
  rw [List.drop_zero] at h
  rw [h, int64B]
  rfl
set_option maxRecDepth 100000 in
set_option maxHeartbeats 4000000 in
theorem rint64_any (s : ByteArray) (w : World) (hs : s.size ≤ 9000) : Calls Tryd.prog 26 #[.string s] w fun e w' => (∃ z, e = .returned (.tuple #[.int .i64 z, .bool (int64B s.data.toList)])) ∧ w = w' := by
  by_cases hn : s.size = 0
  · have hd : s.data.toList = [] := List.eq_nil_of_length_eq_zero (by rw [← Lib.size_eq]; exact hn)
    have hr : Hid (int64B s.data.toList = true) := Lib.hid (by rw [hd]; rfl)
    have hem' : s.toList.isEmpty = true := by rw [Lib.toList_data, hd]; rfl
    have hge : ¬ (0 : Int) < (s.size : Int) := by omega
    clear hd hn
    go_enter Tryd.func26, Tryd.ntmps26
    go_wp2_with fail
    go_loopg [4, 6, 7] 0 (fun g iv nv dv wx => iv = .int .i64 0 ∧ nv = .int .i64 0 ∧ w = wx)
    case atStart => exact ⟨rfl, rfl, rfl⟩
    case round =>
      obtain ⟨rfl, rfl, rfl⟩ := hrel
      go_wp2_with fail
      go_ret2
      exact ⟨⟨_, by rw [hr.out]; rfl⟩, rfl⟩
  · have hp : 0 < s.size := by omega
    have hem' : s.toList.isEmpty = false := by
      rw [Lib.toList_data]
      cases h : s.data.toList with
      | nil => have h' := Lib.size_eq s; rw [h] at h'; have h'' : s.size = 0 := h'; omega
      | cons _ _ => rfl
    have hB := int64_cons s hp
    by_cases hc : s[0] = 45
    · rw [if_pos hc] at hB
      obtain ⟨T, hT⟩ : ∃ T, digW 0 (s.data.toList.drop 1) = T := ⟨_, rfl⟩
      rw [hT] at hB
      have HT := Lib.hid hT
      have HB := Lib.hid hB
      have a1 : (s[0].toNat : Int) = 45 := by rw [hc]; rfl
      clear hn hc hT hB
      go_enter Tryd.func26, Tryd.ntmps26
      go_wp2_with fail
      go_loopg [4, 6, 7] (s.size - 1) (fun g iv nv dv wx => ∃ (j D : Nat), j + g = s.size ∧ iv = .int .i64 j ∧ nv = .int .i64 (-(D : Int)) ∧ D ≤ 9223372036854775808 ∧ Aside (digW D (s.data.toList.drop j) = T) ∧ w = wx)
      case atStart => exact ⟨1, 0, by omega, rfl, rfl, by omega, Aside.intro HT.out, rfl⟩
      case round =>
        obtain ⟨j, D, hj, rfl, rfl, hD, H, rfl⟩ := hrel
        cases gk with
        | zero =>
          obtain rfl : j = s.size := by omega
          have hge : ¬ (s.size : Int) < (s.size : Int) := by omega
          have hr : D = T := by have := H.out; rwa [List.drop_eq_nil_of_le (by rw [len_data]; omega)] at this
          subst hr
          clear H HT hj
          have hr : Hid (int64B s.data.toList = true) := Lib.hid (by rw [HB.out]; exact decide_eq_true hD)
          clear HB
          go_wp2_with fail
          go_ret2
          exact ⟨⟨_, by rw [hr.out]; rfl⟩, rfl⟩
        | succ g =>
          have hlt : j < s.size := by omega
          have hlt1 : (j : Int) < (s.size : Int) := by omega
          have hj0 : (0 : Int) ≤ (j : Int) := by omega
          have HN := H.out
          rw [wdrop_at s j hlt] at HN
          clear H
          have u1 := dW_wrap s[j]
          have hd : dW s[j] < 256 := by unfold dW; omega
          generalize dW s[j] = d at *
          have hq := tdiv_ten (-9223372036854775808 + (d : Int)) (by omega) (by omega)
          obtain ⟨q, hqq⟩ : ∃ q, (-9223372036854775808 + (d : Int)).tdiv 10 = q := ⟨_, rfl⟩
          rw [hqq] at hq
          obtain ⟨q1, q2, q3, q4⟩ := hq
          have wq : wrap64 q = q := by unfold wrap64; omega
          by_cases hb : D * 10 + d ≤ 9223372036854775808
          · have hlt2 : ¬ -(D : Int) < q := by omega
            have w1 : wrap64 (10 * -(D : Int)) = 10 * -(D : Int) := by unfold wrap64; omega
            have w2 : wrap64 (10 * -(D : Int) - (d : Int)) = 10 * -(D : Int) - (d : Int) := by unfold wrap64; omega
            have HN := Lib.hid HN
            clear q1 q2 q3 q4
            go_wp2_with fail
            go_roundg g
            case measure => omega
            case rel => exact ⟨j + 1, D * 10 + d, by omega, by go_num, by go_num, by omega, Aside.intro HN.out, rfl⟩
          · have hlt2 : -(D : Int) < q := by omega
            have hm := digW_mono (s.data.toList.drop (j + 1)) (D * 10 + d)
            rw [HN] at hm
            have hr : Hid (int64B s.data.toList = false) := Lib.hid (by rw [HB.out]; exact decide_eq_false (by omega))
            clear hm hb HN q1 q2 q3 q4
            go_wp2_with fail
            go_ret2
            exact ⟨⟨_, by rw [hr.out]; rfl⟩, rfl⟩
    · rw [if_neg hc] at hB
      obtain ⟨T, hT⟩ : ∃ T, digW 0 (s.data.toList.drop 0) = T := ⟨_, rfl⟩
      rw [hT] at hB
      have HT := Lib.hid hT
      have HB := Lib.hid hB
      have a1 : ((s[0].toNat : Int) == 45) = false := by
        have : ¬ s[0].toNat = 45 := fun e => hc (UInt8.toNat_inj.1 (by rw [e]; rfl))
        simp; omega
      clear hn hc hT hB
      go_enter Tryd.func26, Tryd.ntmps26
      go_wp2_with fail
      go_loopg [4, 6, 7] (s.size - 0) (fun g iv nv dv wx => ∃ (j D : Nat), j + g = s.size ∧ iv = .int .i64 j ∧ nv = .int .i64 (-(D : Int)) ∧ D ≤ 9223372036854775808 ∧ Aside (digW D (s.data.toList.drop j) = T) ∧ w = wx)
      case atStart => exact ⟨0, 0, by omega, rfl, rfl, by omega, Aside.intro HT.out, rfl⟩
      case round =>
        obtain ⟨j, D, hj, rfl, rfl, hD, H, rfl⟩ := hrel
        cases gk with
        | zero =>
          obtain rfl : j = s.size := by omega
          have hge : ¬ (s.size : Int) < (s.size : Int) := by omega
          have hr : D = T := by have := H.out; rwa [List.drop_eq_nil_of_le (by rw [len_data]; omega)] at this
          subst hr
          clear H HT hj
          by_cases hx : D = 9223372036854775808
          · subst hx
            have hr : Hid (int64B s.data.toList = false) := Lib.hid (by rw [HB.out]; exact decide_eq_false (by omega))
            clear HB hD
            go_wp2_with fail
            go_ret2
            exact ⟨⟨_, by rw [hr.out]; rfl⟩, rfl⟩
          · have hr : Hid (int64B s.data.toList = true) := Lib.hid (by rw [HB.out]; exact decide_eq_true (by omega))
            have hx' : (-(D : Int) == -9223372036854775808) = false := by simp; omega
            clear HB
            go_wp2_with fail
            go_ret2
            exact ⟨⟨_, by rw [hr.out]; rfl⟩, rfl⟩
        | succ g =>
          have hlt : j < s.size := by omega
          have hlt1 : (j : Int) < (s.size : Int) := by omega
          have hj0 : (0 : Int) ≤ (j : Int) := by omega
          have HN := H.out
          rw [wdrop_at s j hlt] at HN
          clear H
          have u1 := dW_wrap s[j]
          have hd : dW s[j] < 256 := by unfold dW; omega
          generalize dW s[j] = d at *
          have hq := tdiv_ten (-9223372036854775808 + (d : Int)) (by omega) (by omega)
          obtain ⟨q, hqq⟩ : ∃ q, (-9223372036854775808 + (d : Int)).tdiv 10 = q := ⟨_, rfl⟩
          rw [hqq] at hq
          obtain ⟨q1, q2, q3, q4⟩ := hq
          have wq : wrap64 q = q := by unfold wrap64; omega
          by_cases hb : D * 10 + d ≤ 9223372036854775808
          · have hlt2 : ¬ -(D : Int) < q := by omega
            have w1 : wrap64 (10 * -(D : Int)) = 10 * -(D : Int) := by unfold wrap64; omega
            have w2 : wrap64 (10 * -(D : Int) - (d : Int)) = 10 * -(D : Int) - (d : Int) := by unfold wrap64; omega
            have HN := Lib.hid HN
            clear q1 q2 q3 q4
            go_wp2_with fail
            go_roundg g
            case measure => omega
            case rel => exact ⟨j + 1, D * 10 + d, by omega, by go_num, by go_num, by omega, Aside.intro HN.out, rfl⟩
          · have hlt2 : -(D : Int) < q := by omega
            have hm := digW_mono (s.data.toList.drop (j + 1)) (D * 10 + d)
            rw [HN] at hm
            have hr : Hid (int64B s.data.toList = false) := Lib.hid (by rw [HB.out]; exact decide_eq_false (by omega))
            clear hm hb HN q1 q2 q3 q4
            go_wp2_with fail
            go_ret2
            exact ⟨⟨_, by rw [hr.out]; rfl⟩, rfl⟩
end Go.Proofs.YtnmidlbhkjcimaaDoor
