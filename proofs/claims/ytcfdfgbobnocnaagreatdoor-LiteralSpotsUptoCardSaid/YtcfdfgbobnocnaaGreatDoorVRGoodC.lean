/- The walk of the document's GoodValue: kinds 3, 4. (gen_rgood.py) -/
import Derived.Test.YtcfdfgbobnocnaaGreatDoorTRef
import Derived.Test.YtcfdfgbobnocnaaGreatDoorVTok
import Derived.Test.YtcfdfgbobnocnaaGreatDoorVRNamed
import Derived.Test.YtcfdfgbobnocnaaGreatDoorWRight
import Derived.Test.YtcfdfgbobnocnaaGreatDoorVNum
namespace Go.Proofs.YtcfdfgbobnocnaaGreatDoor
open Go.RowKit

theorem numeral_zero {l : List UInt8} (h : (numeralL l).1 = 0) : (numeralL l).2 = 0 := by
  unfold numeralL at *
  split
  · rfl
  · rename_i h0
    rw [if_neg h0] at h
    simp only at h
    omega
theorem kind_all {l : List UInt8} (h : (numeralL l).1 = l.length) : kindL l = (numeralL l).2 := by
  have hb : behindB (l.drop (numeralL l).1) = false := by rw [h, List.drop_length]; rfl
  have hn : numberL l = numeralL l := by
    unfold numberL
    by_cases h0 : (numeralL l).1 = 0
    · rw [if_pos h0]
      exact Prod.ext h0.symm (numeral_zero h0).symm
    · rw [if_neg h0, hb]; rfl
  unfold kindL
  rw [hn, if_neg (by omega)]
theorem kind_part {l : List UInt8} (h : (numeralL l).1 ≠ l.length) : kindL l = 0 := by
  have hle := numeralL_le l
  have : (numberL l).1 < l.length := by
    unfold numberL
    by_cases h0 : (numeralL l).1 = 0
    · rw [if_pos h0]; show 0 < _; omega
    · rw [if_neg h0]
      split
      · show 0 < _; omega
      · omega
  unfold kindL
  rw [if_pos this]
set_option maxRecDepth 100000 in
theorem rnumber_any (s : ByteArray) (w : World) (hs : s.size ≤ 9000) : Calls Tryz.prog 41 #[.string s] w fun e w' => e = .returned (.int .i64 (kindL s.data.toList)) ∧ w = w' := by
  have HN := Lib.hid (rnumeral_any s w hs)
  have hka := fun h => kind_all (l := s.data.toList) h
  have hkp := fun h => kind_part (l := s.data.toList) h
  have hle := numeralL_le s.data.toList
  rw [len_data] at hka hkp hle
  generalize numeralL s.data.toList = p at *
  obtain ⟨n, k⟩ := p
  simp only at hka hkp hle
  by_cases h : n = s.size
  · have hr := Lib.hid (hka h)
    have e0 : ((n : Int) != (s.size : Int)) = false := by simp; omega
    clear hka hkp
    go_enter Tryz.func41, Tryz.ntmps41
    go_wp2_with fail
    refine HN.out.mono ?_
    rintro e w1 ⟨rfl, rfl⟩
    go_wp2_with fail
    go_ret
    exact ⟨by rw [hr.out]; rfl, rfl⟩
  · have hr := Lib.hid (hkp h)
    have e0 : ((n : Int) != (s.size : Int)) = true := by simp; omega
    clear hka hkp
    go_enter Tryz.func41, Tryz.ntmps41
    go_wp2_with fail
    refine HN.out.mono ?_
    rintro e w1 ⟨rfl, rfl⟩
    go_wp2_with fail
    go_ret
    exact ⟨by rw [hr.out]; rfl, rfl⟩

end Go.Proofs.YtcfdfgbobnocnaaGreatDoor

namespace Go.Proofs.YtcfdfgbobnocnaaGreatDoor
open Go.RowKit

theorem kind_range (l : List UInt8) : kindL l = 0 ∨ kindL l = 3 ∨ kindL l = 4 := by
  have hz : (numeralL l).2 = 0 ∨ (numeralL l).2 = 3 ∨ (numeralL l).2 = 4 := by
    unfold numeralL
    split
    · exact .inl rfl
    · simp only
      split
      · exact .inr (.inl rfl)
      · exact .inr (.inr rfl)
  unfold kindL
  split
  · exact .inl rfl
  · unfold numberL
    split
    · exact .inl rfl
    · split
      · exact .inl rfl
      · exact hz
/-- A byte less 48, as bytes go. -/
def dW (b : UInt8) : Nat := (b.toNat + 208) % 256
theorem dW_wrap (b : UInt8) : IntKind.u8.wrap ((b.toNat : Int) - 48) = (dW b : Int) := by
  rw [IntKind.wrap_u8]; unfold dW; omega
theorem dW_dig {b : UInt8} (h : digU b = true) : dW b = b.toNat - 48 := by
  have := digU_bd h
  unfold dW; omega
def digW (a : Nat) (l : List UInt8) : Nat := l.foldl (fun a b => a * 10 + dW b) a
theorem digW_mono : ∀ (l : List UInt8) (a : Nat), a ≤ digW a l
  | [], a => Nat.le_refl _
  | b :: l, a => by
    show a ≤ digW (a * 10 + dW b) l
    have := digW_mono l (a * 10 + dW b)
    omega
theorem digW_digs : ∀ (l : List UInt8) (a : Nat), l.all digU = true → digW a l = digA a l
  | [], _, _ => rfl
  | b :: l, a, h => by
    rw [List.all_cons, Bool.and_eq_true] at h
    show digW (a * 10 + dW b) l = digA (a * 10 + (b.toNat - 48)) l
    rw [dW_dig h.1, digW_digs l _ h.2]
theorem digW_cons (a : Nat) (b : UInt8) (l : List UInt8) : digW a (b :: l) = digW (a * 10 + dW b) l := rfl
/-- Do digits behind a sign fit into 64 bits? -/
def int64B : List UInt8 → Bool
  | [] => true
  | b :: t => if b = 45 then decide (digW 0 t ≤ 9223372036854775808) else decide (digW 0 (b :: t) ≤ 9223372036854775807)
theorem int64_kind {l : List UInt8} (h : kindL l = 3) : int64B l = fits64 (intN l) := by
  obtain ⟨m, hm, hd, hne⟩ := kind_digits h
  cases l with
  | nil => rfl
  | cons b t =>
    by_cases hb : b = 45
    · subst hb
      have : m = 1 := by rw [← hm]; rfl
      subst this
      have hd' : t.all digU = true := hd
      rw [int_minus]
      rw [int64B, if_pos rfl, digW_digs t 0 hd']
      unfold fits64
      rw [show digA 0 t = digN t from rfl]
      congr 1
      exact propext ⟨fun h => by omega, fun h => by omega⟩
    · have : m = 0 := by rw [← hm]; unfold minusL; simp [hb]
      subst this
      have hd' : (b :: t).all digU = true := hd
      rw [int_digits hd']
      rw [int64B, if_neg hb, digW_digs _ 0 hd']
      unfold fits64
      rw [show digA 0 (b :: t) = digN (b :: t) from rfl]
      congr 1
      exact propext ⟨fun h => by omega, fun h => by omega⟩
theorem ret_zb {z : Int} {a b : Bool} (h : a = b) (w : World) : (∃ z', Ending.returned (.tuple #[.int .i64 z, .bool a]) = .returned (.tuple #[.int .i64 z', .bool b])) ∧ w = w := ⟨⟨z, by rw [h]⟩, rfl⟩
theorem wdrop_at (s : ByteArray) (m : Nat) (h : m < s.size) (a : Nat) : digW a (s.data.toList.drop m) = digW (a * 10 + dW s[m]) (s.data.toList.drop (m + 1)) := by
  rw [drop_at s m h]; rfl
theorem tdiv_ten (D : Int) (h0 : -9223372036854775808 ≤ D) (h1 : D ≤ 0) : 10 * Int.tdiv D 10 - 10 < D ∧ D ≤ 10 * Int.tdiv D 10 ∧ D.tdiv 10 ≤ 0 ∧ 10 * Int.tdiv D 10 < D + 10 := by
  have h : D.tdiv 10 = -((-D) / 10) := by
    rw [show D = -(-D) by omega, Int.neg_tdiv, Int.tdiv_eq_ediv_of_nonneg (by omega)]; simp
  rw [h]; omega
theorem int64_cons (s : ByteArray) (hp : 0 < s.size) : int64B s.data.toList = if s[0] = 45 then decide (digW 0 (s.data.toList.drop 1) ≤ 9223372036854775808) else decide (digW 0 (s.data.toList.drop 0) ≤ 9223372036854775807) := by
  have h := drop_at s 0 hp
  rw [List.drop_zero] at h
  rw [h, int64B]
  rfl
set_option maxRecDepth 100000 in
set_option maxHeartbeats 4000000 in
theorem rint64_any (s : ByteArray) (w : World) (hs : s.size ≤ 9000) : Calls Tryz.prog 42 #[.string s] w fun e w' => (∃ z, e = .returned (.tuple #[.int .i64 z, .bool (int64B s.data.toList)])) ∧ w = w' := by
  by_cases hn : s.size = 0
  · have hd : s.data.toList = [] := List.eq_nil_of_length_eq_zero (by rw [← Lib.size_eq]; exact hn)
    have hr : Hid (int64B s.data.toList = true) := Lib.hid (by rw [hd]; rfl)
    have hem' : s.toList.isEmpty = true := by rw [Lib.toList_data, hd]; rfl
    have hge : ¬ (0 : Int) < (s.size : Int) := by omega
    clear hd hn
    go_enter Tryz.func42, Tryz.ntmps42
    go_wp2_with fail
    go_loopg [4, 6, 7] 0 (fun g iv nv dv wx => iv = .int .i64 0 ∧ nv = .int .i64 0 ∧ w = wx)
    case atStart => exact ⟨rfl, rfl, rfl⟩
    case round =>
      obtain ⟨rfl, rfl, rfl⟩ := hrel
      go_wp2_with fail
      go_ret2
      exact ⟨⟨_, by rw [hr.out]; rfl⟩, rfl⟩
  · have hp : 0 < s.size := by omega
    have hem' : s.toList.isEmpty = false := by
      rw [Lib.toList_data]
      cases h : s.data.toList with
      | nil => have h' := Lib.size_eq s; rw [h] at h'; have h'' : s.size = 0 := h'; omega
      | cons _ _ => rfl
    have hB := int64_cons s hp
    by_cases hc : s[0] = 45
    · rw [if_pos hc] at hB
      obtain ⟨T, hT⟩ : ∃ T, digW 0 (s.data.toList.drop 1) = T := ⟨_, rfl⟩
      rw [hT] at hB
      have HT := Lib.hid hT
      have HB := Lib.hid hB
      have a1 : (s[0].toNat : Int) = 45 := by rw [hc]; rfl
      clear hn hc hT hB
      go_enter Tryz.func42, Tryz.ntmps42
      go_wp2_with fail
      go_loopg [4, 6, 7] (s.size - 1) (fun g iv nv dv wx => ∃ (j D : Nat), j + g = s.size ∧ iv = .int .i64 j ∧ nv = .int .i64 (-(D : Int)) ∧ D ≤ 9223372036854775808 ∧ Aside (digW D (s.data.toList.drop j) = T) ∧ w = wx)
      case atStart => exact ⟨1, 0, by omega, rfl, rfl, by omega, Aside.intro HT.out, rfl⟩
      case round =>
        obtain ⟨j, D, hj, rfl, rfl, hD, H, rfl⟩ := hrel
        cases gk with
        | zero =>
          obtain rfl : j = s.size := by omega
          have hge : ¬ (s.size : Int) < (s.size : Int) := by omega
          have hr : D = T := by have := H.out; rwa [List.drop_eq_nil_of_le (by rw [len_data]; omega)] at this
          subst hr
          clear H HT hj
          have hr : Hid (int64B s.data.toList = true) := Lib.hid (by rw [HB.out]; exact decide_eq_true hD)
          clear HB
          go_wp2_with fail
          go_ret2
          exact ⟨⟨_, by rw [hr.out]; rfl⟩, rfl⟩
        | succ g =>
          have hlt : j < s.size := by omega
          have hlt1 : (j : Int) < (s.size : Int) := by omega
          have hj0 : (0 : Int) ≤ (j : Int) := by omega
          have HN := H.out
          rw [wdrop_at s j hlt] at HN
          clear H
          have u1 := dW_wrap s[j]
          have hd : dW s[j] < 256 := by unfold dW; omega
          generalize dW s[j] = d at *
          have hq := tdiv_ten (-9223372036854775808 + (d : Int)) (by omega) (by omega)
          obtain ⟨q, hqq⟩ : ∃ q, (-9223372036854775808 + (d : Int)).tdiv 10 = q := ⟨_, rfl⟩
          rw [hqq] at hq
          obtain ⟨q1, q2, q3, q4⟩ := hq
          have wq : wrap64 q = q := by unfold wrap64; omega
          by_cases hb : D * 10 + d ≤ 9223372036854775808
          · have hlt2 : ¬ -(D : Int) < q := by omega
            have w1 : wrap64 (10 * -(D : Int)) = 10 * -(D : Int) := by unfold wrap64; omega
            have w2 : wrap64 (10 * -(D : Int) - (d : Int)) = 10 * -(D : Int) - (d : Int) := by unfold wrap64; omega
            have HN := Lib.hid HN
            clear q1 q2 q3 q4
            go_wp2_with fail
            go_roundg g
            case measure => omega
            case rel => exact ⟨j + 1, D * 10 + d, by omega, by go_num, by go_num, by omega, Aside.intro HN.out, rfl⟩
          · have hlt2 : -(D : Int) < q := by omega
            have hm := digW_mono (s.data.toList.drop (j + 1)) (D * 10 + d)
            rw [HN] at hm
            have hr : Hid (int64B s.data.toList = false) := Lib.hid (by rw [HB.out]; exact decide_eq_false (by omega))
            clear hm hb HN q1 q2 q3 q4
            go_wp2_with fail
            go_ret2
            exact ⟨⟨_, by rw [hr.out]; rfl⟩, rfl⟩
    · rw [if_neg hc] at hB
      obtain ⟨T, hT⟩ : ∃ T, digW 0 (s.data.toList.drop 0) = T := ⟨_, rfl⟩
      rw [hT] at hB
      have HT := Lib.hid hT
      have HB := Lib.hid hB
      have a1 : ((s[0].toNat : Int) == 45) = false := by
        have : ¬ s[0].toNat = 45 := fun e => hc (UInt8.toNat_inj.1 (by rw [e]; rfl))
        simp; omega
      clear hn hc hT hB
      go_enter Tryz.func42, Tryz.ntmps42
      go_wp2_with fail
      go_loopg [4, 6, 7] (s.size - 0) (fun g iv nv dv wx => ∃ (j D : Nat), j + g = s.size ∧ iv = .int .i64 j ∧ nv = .int .i64 (-(D : Int)) ∧ D ≤ 9223372036854775808 ∧ Aside (digW D (s.data.toList.drop j) = T) ∧ w = wx)
      case atStart => exact ⟨0, 0, by omega, rfl, rfl, by omega, Aside.intro HT.out, rfl⟩
      case round =>
        obtain ⟨j, D, hj, rfl, rfl, hD, H, rfl⟩ := hrel
        cases gk with
        | zero =>
          obtain rfl : j = s.size := by omega
          have hge : ¬ (s.size : Int) < (s.size : Int) := by omega
          have hr : D = T := by have := H.out; rwa [List.drop_eq_nil_of_le (by rw [len_data]; omega)] at this
          subst hr
          clear H HT hj
          by_cases hx : D = 9223372036854775808
          · subst hx
            have hr : Hid (int64B s.data.toList = false) := Lib.hid (by rw [HB.out]; exact decide_eq_false (by omega))
            clear HB hD
            go_wp2_with fail
            go_ret2
            exact ⟨⟨_, by rw [hr.out]; rfl⟩, rfl⟩
          · have hr : Hid (int64B s.data.toList = true) := Lib.hid (by rw [HB.out]; exact decide_eq_true (by omega))
            have hx' : (-(D : Int) == -9223372036854775808) = false := by simp; omega
            clear HB
            go_wp2_with fail
            go_ret2
            exact ⟨⟨_, by rw [hr.out]; rfl⟩, rfl⟩
        | succ g =>
          have hlt : j < s.size := by omega
          have hlt1 : (j : Int) < (s.size : Int) := by omega
          have hj0 : (0 : Int) ≤ (j : Int) := by omega
          have HN := H.out
          rw [wdrop_at s j hlt] at HN
          clear H
          have u1 := dW_wrap s[j]
          have hd : dW s[j] < 256 := by unfold dW; omega
          generalize dW s[j] = d at *
          have hq := tdiv_ten (-9223372036854775808 + (d : Int)) (by omega) (by omega)
          obtain ⟨q, hqq⟩ : ∃ q, (-9223372036854775808 + (d : Int)).tdiv 10 = q := ⟨_, rfl⟩
          rw [hqq] at hq
          obtain ⟨q1, q2, q3, q4⟩ := hq
          have wq : wrap64 q = q := by unfold wrap64; omega
          by_cases hb : D * 10 + d ≤ 9223372036854775808
          · have hlt2 : ¬ -(D : Int) < q := by omega
            have w1 : wrap64 (10 * -(D : Int)) = 10 * -(D : Int) := by unfold wrap64; omega
            have w2 : wrap64 (10 * -(D : Int) - (d : Int)) = 10 * -(D : Int) - (d : Int) := by unfold wrap64; omega
            have HN := Lib.hid HN
            clear q1 q2 q3 q4
            go_wp2_with fail
            go_roundg g
            case measure => omega
            case rel => exact ⟨j + 1, D * 10 + d, by omega, by go_num, by go_num, by omega, Aside.intro HN.out, rfl⟩
          · have hlt2 : -(D : Int) < q := by omega
            have hm := digW_mono (s.data.toList.drop (j + 1)) (D * 10 + d)
            rw [HN] at hm
            have hr : Hid (int64B s.data.toList = false) := Lib.hid (by rw [HB.out]; exact decide_eq_false (by omega))
            clear hm hb HN q1 q2 q3 q4
            go_wp2_with fail
            go_ret2
            exact ⟨⟨_, by rw [hr.out]; rfl⟩, rfl⟩
end Go.Proofs.YtcfdfgbobnocnaaGreatDoor
namespace Go.Proofs.YtcfdfgbobnocnaaGreatDoor
open Go.RowKit

theorem fit_leaf {p : List UInt8 → Bool} {k n : Int} {s : ByteArray} {l : VL} {m : VM} (h6 : k ≠ 6) (h7 : k ≠ 7) : fitV p (.mk k n s l m) = soundB k n s.data.toList l.len m.len := by
  rw [fitV]
  cases hs : soundB k n s.data.toList l.len m.len with
  | false => rfl
  | true =>
    have hl := VL.nil_of_len (sound_l hs h6)
    have hm := VM.nil_of_len (sound_m hs h7)
    subst hl hm
    rfl
theorem fit_list6 {p : List UInt8 → Bool} {n : Int} {s : ByteArray} {l : VL} {m : VM} : fitV p (.mk 6 n s l m) = (soundB 6 n s.data.toList l.len m.len && fitL p l) := by
  rw [fitV]
  cases hs : soundB 6 n s.data.toList l.len m.len with
  | false => rfl
  | true =>
    have hm := VM.nil_of_len (sound_m hs (by omega))
    subst hm
    rw [fitM]; simp
theorem fit_map7 {p : List UInt8 → Bool} {n : Int} {s : ByteArray} {l : VL} {m : VM} : fitV p (.mk 7 n s l m) = (soundB 7 n s.data.toList l.len m.len && fitM p m) := by
  rw [fitV]
  cases hs : soundB 7 n s.data.toList l.len m.len with
  | false => rfl
  | true =>
    have hl := VL.nil_of_len (sound_l hs (by omega))
    subst hl
    rw [fitL]; simp
theorem fitL_no {p : List UInt8 → Bool} : ∀ {l : VL} {j : Nat} {v : VT}, l.get j = some v → fitV p v = false → fitL p l = false
  | .nil, _, _, h, _ => by simp [VL.get] at h
  | .cons u t, 0, v, h, h2 => by
    have : u = v := by simpa [VL.get] using h
    subst this
    rw [fitL, h2]; rfl
  | .cons u t, j + 1, v, h, h2 => by rw [fitL, fitL_no (l := t) (j := j) h h2]; simp
theorem fitL_yes {p : List UInt8 → Bool} : ∀ {l : VL}, (∀ (j : Nat) v, l.get j = some v → fitV p v = true) → fitL p l = true
  | .nil, _ => rfl
  | .cons u t, h => by rw [fitL, h 0 u rfl, fitL_yes (l := t) (fun j v hj => h (j + 1) v hj)]; rfl
theorem fitM_no {p : List UInt8 → Bool} : ∀ {l : VM} {j : Nat} {nm : ByteArray} {v : VT}, l.get j = some (nm, v) → (p nm.data.toList && fitV p v) = false → fitM p l = false
  | .nil, _, _, _, h, _ => by simp [VM.get] at h
  | .cons a u t, 0, nm, v, h, h2 => by
    have : a = nm ∧ u = v := by simpa [VM.get] using h
    obtain ⟨rfl, rfl⟩ := this
    rw [fitM, h2]; rfl
  | .cons a u t, j + 1, nm, v, h, h2 => by rw [fitM, fitM_no (l := t) (j := j) h h2]; simp
theorem fitM_yes {p : List UInt8 → Bool} : ∀ {l : VM}, (∀ (j : Nat) nm v, l.get j = some (nm, v) → (p nm.data.toList && fitV p v) = true) → fitM p l = true
  | .nil, _ => rfl
  | .cons a u t, h => by rw [fitM, h 0 a u rfl, fitM_yes (l := t) (fun j nm v hj => h (j + 1) nm v hj)]; rfl
def RGoodC (v : VT) : Prop := ∀ (c0 c1 c2 c3 c4 : Value) (w : World) (B : Nat), B ≤ w.heap.size → VAt w B v c0 c1 c2 c3 c4 →
  Calls Tryz.prog 25 #[.agg #[c0, c1, c2, c3, c4]] w fun e w' => e = .returned (.bool (fitV goodB v)) ∧ Below w.heap.size w w'
end Go.Proofs.YtcfdfgbobnocnaaGreatDoor
namespace Go.Proofs.YtcfdfgbobnocnaaGreatDoor
open Go.RowKit

set_option maxRecDepth 100000 in
set_option maxHeartbeats 8000000 in
theorem rgood_zl (k n : Int) (s : ByteArray) (l : VL) (m : VM) (h6 : k ≠ 6) (h7 : k ≠ 7) (hs : s.size ≤ 9000) (zl : l.len ≠ 0) : RGoodC (.mk k n s l m) := by
  intro c0 c1 c2 c3 c4 w B hB hv
  have hfit : fitV goodB (.mk k n s l m) = soundB k n s.data.toList l.len m.len := fit_leaf h6 h7
  rw [hfit]
  clear hfit
  unfold VAt at hv
  obtain ⟨rfl, rfl, rfl, _, ⟨A, c, rfl, hl, hL⟩, A', c', rfl, hm, hM⟩ := hv
  have hG := fun wx => rgood_any s wx hs
  have hN := fun wx => rname_any s wx (by omega)
  have hD := fun wx => rnumber_any s wx hs
  have hI := fun wx => rint64_any s wx hs
  have K0 := Lib.hid (KBx.start w (.cells #[.int .i64 k, .int .i64 n, .string s, .slice A l.len c, .slice A' m.len c'] 30))
  obtain ⟨b1, h1⟩ : ∃ b, (n == 0) = b := ⟨_, rfl⟩
  obtain ⟨b2, h2⟩ : ∃ b, s.toList.isEmpty = b := ⟨_, rfl⟩
  obtain ⟨b5, h5⟩ : ∃ b, (n == 1) = b := ⟨_, rfl⟩
  obtain ⟨b7, h7'⟩ : ∃ b, goodB s.data.toList = b := ⟨_, rfl⟩
  obtain ⟨b9, h9⟩ : ∃ b, nameB s.data.toList = b := ⟨_, rfl⟩
  have g2 : s.data.toList.isEmpty = b2 := by rw [← Lib.toList_data]; exact h2
  rw [h7'] at hG
  rw [h9] at hN
  have G := fun wx => Lib.hid (hG wx)
  have N := fun wx => Lib.hid (hN wx)
  clear hL hM hG hN hB
  have zl' : (l.len : Int) > 0 := by omega
  have hr : Hid (soundB k n s.data.toList l.len m.len = false) := Lib.hid (by cases e : soundB k n s.data.toList l.len m.len with
    | false => rfl
    | true => exact absurd (sound_l e h6) zl)
  have e6 : (k != 6) = true := by simpa using h6
  have e7 : (k != 7) = true := by simpa using h7
  clear h6 h7 g2 h5 h7' h9 zl hD hI G N h2
  cases x1 : (k == 1) with
  | true =>
    obtain rfl : k = 1 := by simpa using x1
    go_enter Tryz.func25, Tryz.ntmps25
    go_wp2_with fail
    go_ret
    exact ⟨ret_bool hr.out.symm, K0.out.low⟩
  | false =>
    have y1 : (k != 1) = true := by simpa [bne] using x1
    cases x2 : (k == 2) with
    | true =>
      obtain rfl : k = 2 := by simpa using x2
      go_enter Tryz.func25, Tryz.ntmps25
      go_wp2_with fail
      go_ret
      exact ⟨ret_bool hr.out.symm, K0.out.low⟩
    | false =>
      have y2 : (k != 2) = true := by simpa [bne] using x2
      cases b1 with
      | true =>
        obtain rfl : n = 0 := by simpa using h1
        go_enter Tryz.func25, Tryz.ntmps25
        go_wp2_with fail
        go_ret
        exact ⟨ret_bool hr.out.symm, K0.out.low⟩
      | false =>
        have x0 : (n != 0) = true := by simpa [bne] using h1
        go_enter Tryz.func25, Tryz.ntmps25
        go_wp2_with fail
        go_ret
        exact ⟨ret_bool hr.out.symm, K0.out.low⟩
set_option maxRecDepth 100000 in
set_option maxHeartbeats 8000000 in
theorem rgood_zm (k n : Int) (s : ByteArray) (l : VL) (m : VM) (h6 : k ≠ 6) (h7 : k ≠ 7) (hs : s.size ≤ 9000) (zl : l.len = 0) (zm : m.len ≠ 0) : RGoodC (.mk k n s l m) := by
  intro c0 c1 c2 c3 c4 w B hB hv
  have hfit : fitV goodB (.mk k n s l m) = soundB k n s.data.toList l.len m.len := fit_leaf h6 h7
  rw [hfit]
  clear hfit
  unfold VAt at hv
  obtain ⟨rfl, rfl, rfl, _, ⟨A, c, rfl, hl, hL⟩, A', c', rfl, hm, hM⟩ := hv
  rw [zl]
  have hG := fun wx => rgood_any s wx hs
  have hN := fun wx => rname_any s wx (by omega)
  have hD := fun wx => rnumber_any s wx hs
  have hI := fun wx => rint64_any s wx hs
  have K0 := Lib.hid (KBx.start w (.cells #[.int .i64 k, .int .i64 n, .string s, .slice A 0 c, .slice A' m.len c'] 30))
  obtain ⟨b1, h1⟩ : ∃ b, (n == 0) = b := ⟨_, rfl⟩
  obtain ⟨b2, h2⟩ : ∃ b, s.toList.isEmpty = b := ⟨_, rfl⟩
  obtain ⟨b5, h5⟩ : ∃ b, (n == 1) = b := ⟨_, rfl⟩
  obtain ⟨b7, h7'⟩ : ∃ b, goodB s.data.toList = b := ⟨_, rfl⟩
  obtain ⟨b9, h9⟩ : ∃ b, nameB s.data.toList = b := ⟨_, rfl⟩
  have g2 : s.data.toList.isEmpty = b2 := by rw [← Lib.toList_data]; exact h2
  rw [h7'] at hG
  rw [h9] at hN
  have G := fun wx => Lib.hid (hG wx)
  have N := fun wx => Lib.hid (hN wx)
  clear hL hM hG hN hB
  have zm' : (m.len : Int) > 0 := by omega
  have hr : Hid (soundB k n s.data.toList 0 m.len = false) := Lib.hid (by cases e : soundB k n s.data.toList 0 m.len with
    | false => rfl
    | true => exact absurd (sound_m e h7) zm)
  have e6 : (k != 6) = true := by simpa using h6
  have e7 : (k != 7) = true := by simpa using h7
  clear h6 h7 g2 h5 h7' h9 zl hD hI G N h2 zm
  cases x1 : (k == 1) with
  | true =>
    obtain rfl : k = 1 := by simpa using x1
    go_enter Tryz.func25, Tryz.ntmps25
    go_wp2_with fail
    go_ret
    exact ⟨ret_bool hr.out.symm, K0.out.low⟩
  | false =>
    have y1 : (k != 1) = true := by simpa [bne] using x1
    cases x2 : (k == 2) with
    | true =>
      obtain rfl : k = 2 := by simpa using x2
      go_enter Tryz.func25, Tryz.ntmps25
      go_wp2_with fail
      go_ret
      exact ⟨ret_bool hr.out.symm, K0.out.low⟩
    | false =>
      have y2 : (k != 2) = true := by simpa [bne] using x2
      cases b1 with
      | true =>
        obtain rfl : n = 0 := by simpa using h1
        go_enter Tryz.func25, Tryz.ntmps25
        go_wp2_with fail
        go_ret
        exact ⟨ret_bool hr.out.symm, K0.out.low⟩
      | false =>
        have x0 : (n != 0) = true := by simpa [bne] using h1
        go_enter Tryz.func25, Tryz.ntmps25
        go_wp2_with fail
        go_ret
        exact ⟨ret_bool hr.out.symm, K0.out.low⟩
end Go.Proofs.YtcfdfgbobnocnaaGreatDoor
namespace Go.Proofs.YtcfdfgbobnocnaaGreatDoor
open Go.RowKit

set_option maxRecDepth 100000 in
set_option maxHeartbeats 8000000 in
theorem rgood_k0 (n : Int) (s : ByteArray) (l : VL) (m : VM) (hs : s.size ≤ 9000) (zl : l.len = 0) (zm : m.len = 0) : RGoodC (.mk 0 n s l m) := by
  have h6 : (0 : Int) ≠ 6 := by decide
  have h7 : (0 : Int) ≠ 7 := by decide
  intro c0 c1 c2 c3 c4 w B hB hv
  have hfit : fitV goodB (.mk 0 n s l m) = soundB 0 n s.data.toList l.len m.len := fit_leaf h6 h7
  rw [hfit]
  clear hfit
  unfold VAt at hv
  obtain ⟨rfl, rfl, rfl, _, ⟨A, c, rfl, hl, hL⟩, A', c', rfl, hm, hM⟩ := hv
  rw [zl, zm]
  have hG := fun wx => rgood_any s wx hs
  have hN := fun wx => rname_any s wx (by omega)
  have hD := fun wx => rnumber_any s wx hs
  have hI := fun wx => rint64_any s wx hs
  have K0 := Lib.hid (KBx.start w (.cells #[.int .i64 0, .int .i64 n, .string s, .slice A 0 c, .slice A' 0 c'] 30))
  obtain ⟨b1, h1⟩ : ∃ b, (n == 0) = b := ⟨_, rfl⟩
  obtain ⟨b2, h2⟩ : ∃ b, s.toList.isEmpty = b := ⟨_, rfl⟩
  obtain ⟨b5, h5⟩ : ∃ b, (n == 1) = b := ⟨_, rfl⟩
  obtain ⟨b7, h7'⟩ : ∃ b, goodB s.data.toList = b := ⟨_, rfl⟩
  obtain ⟨b9, h9⟩ : ∃ b, nameB s.data.toList = b := ⟨_, rfl⟩
  have g2 : s.data.toList.isEmpty = b2 := by rw [← Lib.toList_data]; exact h2
  rw [h7'] at hG
  rw [h9] at hN
  have G := fun wx => Lib.hid (hG wx)
  have N := fun wx => Lib.hid (hN wx)
  clear hL hM hG hN hB
  clear h6 h7
  clear zl zm
  have hr : Hid (soundB 0 n s.data.toList 0 0 = (b1 && b2 && true && true)) := Lib.hid (by rw [soundB, if_pos rfl, h1, g2] <;> rfl)
  clear g2 h5 h7' h9 hD hI G N
  cases b1 with
  | false =>
    have x0 : (n != 0) = true := by simpa [bne] using h1
    go_enter Tryz.func25, Tryz.ntmps25
    go_wp2_with fail
    go_ret
    exact ⟨ret_bool (by rw [hr.out]; simp), K0.out.low⟩
  | true =>
    obtain rfl : n = 0 := by simpa using h1
    cases b2 with
    | false =>
      go_enter Tryz.func25, Tryz.ntmps25
      go_wp2_with fail
      go_ret
      exact ⟨ret_bool (by rw [hr.out]; simp), K0.out.low⟩
    | true =>
      go_enter Tryz.func25, Tryz.ntmps25
      go_wp2_with fail
      go_ret
      exact ⟨ret_bool (by rw [hr.out]; simp), K0.out.low⟩
set_option maxRecDepth 100000 in
set_option maxHeartbeats 8000000 in
theorem rgood_k1 (n : Int) (s : ByteArray) (l : VL) (m : VM) (hs : s.size ≤ 9000) (zl : l.len = 0) (zm : m.len = 0) : RGoodC (.mk 1 n s l m) := by
  have h6 : (1 : Int) ≠ 6 := by decide
  have h7 : (1 : Int) ≠ 7 := by decide
  intro c0 c1 c2 c3 c4 w B hB hv
  have hfit : fitV goodB (.mk 1 n s l m) = soundB 1 n s.data.toList l.len m.len := fit_leaf h6 h7
  rw [hfit]
  clear hfit
  unfold VAt at hv
  obtain ⟨rfl, rfl, rfl, _, ⟨A, c, rfl, hl, hL⟩, A', c', rfl, hm, hM⟩ := hv
  rw [zl, zm]
  have hG := fun wx => rgood_any s wx hs
  have hN := fun wx => rname_any s wx (by omega)
  have hD := fun wx => rnumber_any s wx hs
  have hI := fun wx => rint64_any s wx hs
  have K0 := Lib.hid (KBx.start w (.cells #[.int .i64 1, .int .i64 n, .string s, .slice A 0 c, .slice A' 0 c'] 30))
  obtain ⟨b1, h1⟩ : ∃ b, (n == 0) = b := ⟨_, rfl⟩
  obtain ⟨b2, h2⟩ : ∃ b, s.toList.isEmpty = b := ⟨_, rfl⟩
  obtain ⟨b5, h5⟩ : ∃ b, (n == 1) = b := ⟨_, rfl⟩
  obtain ⟨b7, h7'⟩ : ∃ b, goodB s.data.toList = b := ⟨_, rfl⟩
  obtain ⟨b9, h9⟩ : ∃ b, nameB s.data.toList = b := ⟨_, rfl⟩
  have g2 : s.data.toList.isEmpty = b2 := by rw [← Lib.toList_data]; exact h2
  rw [h7'] at hG
  rw [h9] at hN
  have G := fun wx => Lib.hid (hG wx)
  have N := fun wx => Lib.hid (hN wx)
  clear hL hM hG hN hB
  clear h6 h7
  clear zl zm
  have hr : Hid (soundB 1 n s.data.toList 0 0 = ((b1 || b5) && b2 && true && true)) := Lib.hid (by rw [soundB, if_neg (by omega), if_pos rfl, h1, h5, g2] <;> rfl)
  clear g2 h7' h9 hD hI G N
  cases b2 with
  | false =>
    go_enter Tryz.func25, Tryz.ntmps25
    go_wp2_with fail
    go_ret
    exact ⟨ret_bool (by rw [hr.out]; simp), K0.out.low⟩
  | true =>
    cases b1 <;> cases b5
    all_goals
      go_enter Tryz.func25, Tryz.ntmps25
      go_wp2_with fail
      go_ret
      exact ⟨ret_bool (by rw [hr.out]; simp), K0.out.low⟩
set_option maxRecDepth 100000 in
set_option maxHeartbeats 8000000 in
theorem rgood_k2 (n : Int) (s : ByteArray) (l : VL) (m : VM) (hs : s.size ≤ 9000) (zl : l.len = 0) (zm : m.len = 0) : RGoodC (.mk 2 n s l m) := by
  have h6 : (2 : Int) ≠ 6 := by decide
  have h7 : (2 : Int) ≠ 7 := by decide
  intro c0 c1 c2 c3 c4 w B hB hv
  have hfit : fitV goodB (.mk 2 n s l m) = soundB 2 n s.data.toList l.len m.len := fit_leaf h6 h7
  rw [hfit]
  clear hfit
  unfold VAt at hv
  obtain ⟨rfl, rfl, rfl, _, ⟨A, c, rfl, hl, hL⟩, A', c', rfl, hm, hM⟩ := hv
  rw [zl, zm]
  have hG := fun wx => rgood_any s wx hs
  have hN := fun wx => rname_any s wx (by omega)
  have hD := fun wx => rnumber_any s wx hs
  have hI := fun wx => rint64_any s wx hs
  have K0 := Lib.hid (KBx.start w (.cells #[.int .i64 2, .int .i64 n, .string s, .slice A 0 c, .slice A' 0 c'] 30))
  obtain ⟨b1, h1⟩ : ∃ b, (n == 0) = b := ⟨_, rfl⟩
  obtain ⟨b2, h2⟩ : ∃ b, s.toList.isEmpty = b := ⟨_, rfl⟩
  obtain ⟨b5, h5⟩ : ∃ b, (n == 1) = b := ⟨_, rfl⟩
  obtain ⟨b7, h7'⟩ : ∃ b, goodB s.data.toList = b := ⟨_, rfl⟩
  obtain ⟨b9, h9⟩ : ∃ b, nameB s.data.toList = b := ⟨_, rfl⟩
  have g2 : s.data.toList.isEmpty = b2 := by rw [← Lib.toList_data]; exact h2
  rw [h7'] at hG
  rw [h9] at hN
  have G := fun wx => Lib.hid (hG wx)
  have N := fun wx => Lib.hid (hN wx)
  clear hL hM hG hN hB
  clear h6 h7
  clear zl zm
  have hr : Hid (soundB 2 n s.data.toList 0 0 = (b2 && true && true)) := Lib.hid (by rw [soundB, if_neg (by omega), if_neg (by omega), if_pos rfl, g2] <;> rfl)
  clear g2 h1 h5 h7' h9 hD hI G N
  cases b2 with
  | false =>
    go_enter Tryz.func25, Tryz.ntmps25
    go_wp2_with fail
    go_ret
    exact ⟨ret_bool (by rw [hr.out]; simp), K0.out.low⟩
  | true =>
    go_enter Tryz.func25, Tryz.ntmps25
    go_wp2_with fail
    go_ret
    exact ⟨ret_bool (by rw [hr.out]; simp), K0.out.low⟩
end Go.Proofs.YtcfdfgbobnocnaaGreatDoor
namespace Go.Proofs.YtcfdfgbobnocnaaGreatDoor
open Go.RowKit

set_option maxRecDepth 100000 in
set_option maxHeartbeats 8000000 in
theorem rgood_k3 (n : Int) (s : ByteArray) (l : VL) (m : VM) (hs : s.size ≤ 9000) (zl : l.len = 0) (zm : m.len = 0) : RGoodC (.mk 3 n s l m) := by
  have h6 : (3 : Int) ≠ 6 := by decide
  have h7 : (3 : Int) ≠ 7 := by decide
  intro c0 c1 c2 c3 c4 w B hB hv
  have hfit : fitV goodB (.mk 3 n s l m) = soundB 3 n s.data.toList l.len m.len := fit_leaf h6 h7
  rw [hfit]
  clear hfit
  unfold VAt at hv
  obtain ⟨rfl, rfl, rfl, _, ⟨A, c, rfl, hl, hL⟩, A', c', rfl, hm, hM⟩ := hv
  rw [zl, zm]
  have hG := fun wx => rgood_any s wx hs
  have hN := fun wx => rname_any s wx (by omega)
  have hD := fun wx => rnumber_any s wx hs
  have hI := fun wx => rint64_any s wx hs
  have K0 := Lib.hid (KBx.start w (.cells #[.int .i64 3, .int .i64 n, .string s, .slice A 0 c, .slice A' 0 c'] 30))
  obtain ⟨b1, h1⟩ : ∃ b, (n == 0) = b := ⟨_, rfl⟩
  obtain ⟨b2, h2⟩ : ∃ b, s.toList.isEmpty = b := ⟨_, rfl⟩
  obtain ⟨b5, h5⟩ : ∃ b, (n == 1) = b := ⟨_, rfl⟩
  obtain ⟨b7, h7'⟩ : ∃ b, goodB s.data.toList = b := ⟨_, rfl⟩
  obtain ⟨b9, h9⟩ : ∃ b, nameB s.data.toList = b := ⟨_, rfl⟩
  have g2 : s.data.toList.isEmpty = b2 := by rw [← Lib.toList_data]; exact h2
  rw [h7'] at hG
  rw [h9] at hN
  have G := fun wx => Lib.hid (hG wx)
  have N := fun wx => Lib.hid (hN wx)
  clear hL hM hG hN hB
  clear h6 h7
  clear zl zm
  have hr : Hid (soundB 3 n s.data.toList 0 0 = (b1 && numB s.data.toList && true && true)) := Lib.hid (by rw [soundB, if_neg (by omega), if_neg (by omega), if_neg (by omega), if_pos rfl, h1] <;> rfl)
  clear h5 h7' h9 G N
  cases b1 with
  | false =>
    have x0 : (n != 0) = true := by simpa [bne] using h1
    go_enter Tryz.func25, Tryz.ntmps25
    go_wp2_with fail
    go_ret
    exact ⟨ret_bool (by rw [hr.out]; simp), K0.out.low⟩
  | true =>
    obtain rfl : n = 0 := by simpa using h1
    obtain ⟨kd, hkd⟩ : ∃ kd, kindL s.data.toList = kd := ⟨_, rfl⟩
    have hnb : numB s.data.toList = (kd == 4 || (kd == 3 && !fits64 (intN s.data.toList))) := by unfold numB; rw [hkd]
    have hkr := kind_range s.data.toList
    rw [hkd] at hD hkr
    have D := fun wx => Lib.hid (hD wx)
    cases b2 with
    | true =>
      have h0 : kd = 0 := by rw [← hkd, List.isEmpty_iff.1 g2]; rfl
      subst h0
      rw [hnb] at hr
      clear hkd hnb hI g2 hD hkr
      go_enter Tryz.func25, Tryz.ntmps25
      go_wp2_with (go_at_call 41; refine (D _).out.mono ?_; rintro e w1 ⟨rfl, rfl⟩)
      go_ret
      exact ⟨ret_bool (by rw [hr.out]; simp), K0.out.low⟩
    | false =>
      rcases hkr with h0 | h0 | h0
      · subst h0
        rw [hnb] at hr
        clear hkd hnb hI g2 hD
        go_enter Tryz.func25, Tryz.ntmps25
        go_wp2_with (go_at_call 41; refine (D _).out.mono ?_; rintro e w1 ⟨rfl, rfl⟩)
        go_ret
        exact ⟨ret_bool (by rw [hr.out]; simp), K0.out.low⟩
      · subst h0
        rw [hnb, ← int64_kind hkd] at hr
        obtain ⟨y, hy⟩ : ∃ y, int64B s.data.toList = y := ⟨_, rfl⟩
        rw [hy] at hI hr
        have I := fun wx => Lib.hid (hI wx)
        clear hkd hnb hI g2 hD hy
        cases y
        all_goals
          go_enter Tryz.func25, Tryz.ntmps25
          go_wp2_with (first
            | (go_at_call 41; refine (D _).out.mono ?_; rintro e w1 ⟨rfl, rfl⟩)
            | (go_at_call 42; refine (I _).out.mono ?_; rintro e w1 ⟨⟨z, rfl⟩, rfl⟩))
          go_ret
          exact ⟨ret_bool (by rw [hr.out]; simp), K0.out.low⟩
      · subst h0
        rw [hnb] at hr
        have I := fun wx => Lib.hid (hI wx)
        clear hkd hnb hI g2 hD
        go_enter Tryz.func25, Tryz.ntmps25
        go_wp2_with (first
          | (go_at_call 41; refine (D _).out.mono ?_; rintro e w1 ⟨rfl, rfl⟩)
          | (go_at_call 42; refine (I _).out.mono ?_; rintro e w1 ⟨⟨z, rfl⟩, rfl⟩))
        go_ret
        exact ⟨ret_bool (by rw [hr.out]; simp), K0.out.low⟩
set_option maxRecDepth 100000 in
set_option maxHeartbeats 8000000 in
theorem rgood_k4 (n : Int) (s : ByteArray) (l : VL) (m : VM) (hs : s.size ≤ 9000) (zl : l.len = 0) (zm : m.len = 0) : RGoodC (.mk 4 n s l m) := by
  have h6 : (4 : Int) ≠ 6 := by decide
  have h7 : (4 : Int) ≠ 7 := by decide
  intro c0 c1 c2 c3 c4 w B hB hv
  have hfit : fitV goodB (.mk 4 n s l m) = soundB 4 n s.data.toList l.len m.len := fit_leaf h6 h7
  rw [hfit]
  clear hfit
  unfold VAt at hv
  obtain ⟨rfl, rfl, rfl, _, ⟨A, c, rfl, hl, hL⟩, A', c', rfl, hm, hM⟩ := hv
  rw [zl, zm]
  have hG := fun wx => rgood_any s wx hs
  have hN := fun wx => rname_any s wx (by omega)
  have hD := fun wx => rnumber_any s wx hs
  have hI := fun wx => rint64_any s wx hs
  have K0 := Lib.hid (KBx.start w (.cells #[.int .i64 4, .int .i64 n, .string s, .slice A 0 c, .slice A' 0 c'] 30))
  obtain ⟨b1, h1⟩ : ∃ b, (n == 0) = b := ⟨_, rfl⟩
  obtain ⟨b2, h2⟩ : ∃ b, s.toList.isEmpty = b := ⟨_, rfl⟩
  obtain ⟨b5, h5⟩ : ∃ b, (n == 1) = b := ⟨_, rfl⟩
  obtain ⟨b7, h7'⟩ : ∃ b, goodB s.data.toList = b := ⟨_, rfl⟩
  obtain ⟨b9, h9⟩ : ∃ b, nameB s.data.toList = b := ⟨_, rfl⟩
  have g2 : s.data.toList.isEmpty = b2 := by rw [← Lib.toList_data]; exact h2
  rw [h7'] at hG
  rw [h9] at hN
  have G := fun wx => Lib.hid (hG wx)
  have N := fun wx => Lib.hid (hN wx)
  clear hL hM hG hN hB
  clear h6 h7
  clear zl zm
  have hr : Hid (soundB 4 n s.data.toList 0 0 = (b1 && b7 && true && true)) := Lib.hid (by rw [soundB, if_neg (by omega), if_neg (by omega), if_neg (by omega), if_neg (by omega), if_pos rfl, h1, h7'] <;> rfl)
  clear g2 h2 h5 h7' h9 hD hI N
  cases b1 with
  | false =>
    have x0 : (n != 0) = true := by simpa [bne] using h1
    go_enter Tryz.func25, Tryz.ntmps25
    go_wp2_with fail
    go_ret
    exact ⟨ret_bool (by rw [hr.out]; simp), K0.out.low⟩
  | true =>
    obtain rfl : n = 0 := by simpa using h1
    go_enter Tryz.func25, Tryz.ntmps25
    go_wp2_with (go_at_call 43; refine (G _).out.mono ?_; rintro e w1 ⟨rfl, hb1⟩)
    go_ret
    exact ⟨ret_bool (by rw [hr.out]; simp), (K0.out.next hb1).low⟩
end Go.Proofs.YtcfdfgbobnocnaaGreatDoor
