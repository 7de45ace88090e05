/- The walks of the document's own Name and RightType. -/
import Derived.Test.YtcfdfgbobnocnaaGreatDoorEach
import Derived.Test.YtcfdfgbobnocnaaGreatDoorWRead
import Derived.Deep.QuietTactic
import Derived.BigQuiet
import Derived.Deep.Draws
import Derived.Deep.DeepCutAuto
import Derived.Lib.Hide
import Derived.Shelf.Abstract
namespace Go.Proofs.YtcfdfgbobnocnaaGreatDoor
open Go.RowKit

abbrev tyV (n : ByteArray) (l m : Int) : Value := .agg #[.string n, .int .i64 l, .int .i64 m]
abbrev tyO (n : ByteArray) (l m : Int) : Obj := .cells #[.string n, .int .i64 l, .int .i64 m] 26
theorem below_new {w : World} {cs : Array Value} {t : TypeId} : Below w.heap.size w (w.alloc (.cells cs t)) := (Below.refl _ _).alloc (Nat.le_refl _) _
theorem bdraw {B : Nat} {a w : World} (h : Below B a w) (n : Nat) : Below B a (w.drewN n) := ⟨h.os, h.tape, h.output, h.size, h.block⟩
theorem ret_bb {a b : Bool} (h : a = b) : Ending.returned (.bool a) = .returned (.bool b) := by rw [h]
theorem right_true {n : List UInt8} {l m : Int} (h : rightT n l m = true) : nameB n = true ∧ 0 ≤ l ∧ l ≤ 4 ∧ 0 ≤ m ∧ m < 2 ^ (l.toNat + 1) := by
  simpa [rightT] using h
theorem right_small {n : List UInt8} {l m : Int} (h : rightT n l m = true) : 0 ≤ l ∧ l ≤ 4 ∧ 0 ≤ m ∧ m < 32 := by
  obtain ⟨_, h1, h2, h3, h4⟩ := right_true h
  refine ⟨h1, h2, h3, ?_⟩
  have : l = 0 ∨ l = 1 ∨ l = 2 ∨ l = 3 ∨ l = 4 := by omega
  rcases this with rfl | rfl | rfl | rfl | rfl <;> simp at h4 <;> omega
theorem right_of {n : List UInt8} {l m : Int} (hn : nameB n = true) (h1 : 0 ≤ l) (h2 : l ≤ 4) (h3 : 0 ≤ m) (h4 : m < 2 ^ (l.toNat + 1)) : rightT n l m = true := by
  simp [rightT, hn, h1, h2, h3, h4]
theorem five {l : Int} (h0 : 0 ≤ l) (h4 : l ≤ 4) : l = 0 ∨ l = 1 ∨ l = 2 ∨ l = 3 ∨ l = 4 := by omega

set_option maxRecDepth 100000 in
set_option maxHeartbeats 2000000 in
theorem wright_any (n : ByteArray) (l m : Int) (w : World) (hn : n.size ≤ 9223372036854775807) : Calls Tryz.prog 17 #[.agg #[.string n, .int .i64 l, .int .i64 m]] w fun e w' => e = .returned (.bool (rightT n.data.toList l m)) ∧ Below w.heap.size w w' := by
  have HN := fun w => Lib.hid (name_any n w (by omega))
  have HB := Lib.hid (below_new (w := w) (cs := #[.string n, .int .i64 l, .int .i64 m]) (t := 26))
  cases hb : nameB n.data.toList
  · have hr : Hid (rightT n.data.toList l m = false) := Lib.hid (by simp [rightT, hb])
    rw [hb] at HN
    clear hb
    go_enter Tryz.func17, Tryz.ntmps17
    go_wp2
    go_quiet (exact (HN _).out.mono fun _ _ h => ⟨h.1, _, h.2.symm⟩)
    go_wp2
    go_ret
    exact ⟨ret_bb hr.out.symm, bdraw HB.out _⟩
  · rw [hb] at HN
    have hb' := Lib.hid hb
    clear hb
    by_cases h1 : 0 ≤ l
    · by_cases h2 : l ≤ 4
      · by_cases h3 : 0 ≤ m
        · have t1 : decide ((0 : Int) ≤ m) = true := by simpa using h3
          rcases five h1 h2 with rfl | rfl | rfl | rfl | rfl
          · by_cases h4 : m < 2
            · have hr : Hid (rightT n.data.toList 0 m = true) := Lib.hid (right_of hb'.out (by omega) (by omega) h3 (by simpa using h4))
              have t2 : decide (m < 2) = true := by simpa using h4
              go_enter Tryz.func17, Tryz.ntmps17
              go_wp2
              go_quiet (exact (HN _).out.mono fun _ _ h => ⟨h.1, _, h.2.symm⟩)
              go_wp2
              go_ret
              exact ⟨ret_bb hr.out.symm, bdraw HB.out _⟩
            · have hr : Hid (rightT n.data.toList 0 m = false) := Lib.hid (by simp [rightT]; intro _ _; simp at h4; omega)
              have t2 : decide (m < 2) = false := by simpa using h4
              go_enter Tryz.func17, Tryz.ntmps17
              go_wp2
              go_quiet (exact (HN _).out.mono fun _ _ h => ⟨h.1, _, h.2.symm⟩)
              go_wp2
              go_ret
              exact ⟨ret_bb hr.out.symm, bdraw HB.out _⟩
          · by_cases h4 : m < 4
            · have hr : Hid (rightT n.data.toList 1 m = true) := Lib.hid (right_of hb'.out (by omega) (by omega) h3 (by simpa using h4))
              have t2 : decide (m < 4) = true := by simpa using h4
              go_enter Tryz.func17, Tryz.ntmps17
              go_wp2
              go_quiet (exact (HN _).out.mono fun _ _ h => ⟨h.1, _, h.2.symm⟩)
              go_wp2
              go_ret
              exact ⟨ret_bb hr.out.symm, bdraw HB.out _⟩
            · have hr : Hid (rightT n.data.toList 1 m = false) := Lib.hid (by simp [rightT]; intro _ _; simp at h4; omega)
              have t2 : decide (m < 4) = false := by simpa using h4
              go_enter Tryz.func17, Tryz.ntmps17
              go_wp2
              go_quiet (exact (HN _).out.mono fun _ _ h => ⟨h.1, _, h.2.symm⟩)
              go_wp2
              go_ret
              exact ⟨ret_bb hr.out.symm, bdraw HB.out _⟩
          · by_cases h4 : m < 8
            · have hr : Hid (rightT n.data.toList 2 m = true) := Lib.hid (right_of hb'.out (by omega) (by omega) h3 (by simpa using h4))
              have t2 : decide (m < 8) = true := by simpa using h4
              go_enter Tryz.func17, Tryz.ntmps17
              go_wp2
              go_quiet (exact (HN _).out.mono fun _ _ h => ⟨h.1, _, h.2.symm⟩)
              go_wp2
              go_ret
              exact ⟨ret_bb hr.out.symm, bdraw HB.out _⟩
            · have hr : Hid (rightT n.data.toList 2 m = false) := Lib.hid (by simp [rightT]; intro _ _; simp at h4; omega)
              have t2 : decide (m < 8) = false := by simpa using h4
              go_enter Tryz.func17, Tryz.ntmps17
              go_wp2
              go_quiet (exact (HN _).out.mono fun _ _ h => ⟨h.1, _, h.2.symm⟩)
              go_wp2
              go_ret
              exact ⟨ret_bb hr.out.symm, bdraw HB.out _⟩
          · by_cases h4 : m < 16
            · have hr : Hid (rightT n.data.toList 3 m = true) := Lib.hid (right_of hb'.out (by omega) (by omega) h3 (by simpa using h4))
              have t2 : decide (m < 16) = true := by simpa using h4
              go_enter Tryz.func17, Tryz.ntmps17
              go_wp2
              go_quiet (exact (HN _).out.mono fun _ _ h => ⟨h.1, _, h.2.symm⟩)
              go_wp2
              go_ret
              exact ⟨ret_bb hr.out.symm, bdraw HB.out _⟩
            · have hr : Hid (rightT n.data.toList 3 m = false) := Lib.hid (by simp [rightT]; intro _ _; simp at h4; omega)
              have t2 : decide (m < 16) = false := by simpa using h4
              go_enter Tryz.func17, Tryz.ntmps17
              go_wp2
              go_quiet (exact (HN _).out.mono fun _ _ h => ⟨h.1, _, h.2.symm⟩)
              go_wp2
              go_ret
              exact ⟨ret_bb hr.out.symm, bdraw HB.out _⟩
          · by_cases h4 : m < 32
            · have hr : Hid (rightT n.data.toList 4 m = true) := Lib.hid (right_of hb'.out (by omega) (by omega) h3 (by simpa using h4))
              have t2 : decide (m < 32) = true := by simpa using h4
              go_enter Tryz.func17, Tryz.ntmps17
              go_wp2
              go_quiet (exact (HN _).out.mono fun _ _ h => ⟨h.1, _, h.2.symm⟩)
              go_wp2
              go_ret
              exact ⟨ret_bb hr.out.symm, bdraw HB.out _⟩
            · have hr : Hid (rightT n.data.toList 4 m = false) := Lib.hid (by simp [rightT]; intro _ _; simp at h4; omega)
              have t2 : decide (m < 32) = false := by simpa using h4
              go_enter Tryz.func17, Tryz.ntmps17
              go_wp2
              go_quiet (exact (HN _).out.mono fun _ _ h => ⟨h.1, _, h.2.symm⟩)
              go_wp2
              go_ret
              exact ⟨ret_bb hr.out.symm, bdraw HB.out _⟩
        · have hr : Hid (rightT n.data.toList l m = false) := Lib.hid (by simp [rightT]; omega)
          have t1 : decide ((0 : Int) ≤ m) = false := by simpa using h3
          go_enter Tryz.func17, Tryz.ntmps17
          go_wp2
          go_quiet (exact (HN _).out.mono fun _ _ h => ⟨h.1, _, h.2.symm⟩)
          go_wp2
          go_ret
          exact ⟨ret_bb hr.out.symm, bdraw HB.out _⟩
      · have hr : Hid (rightT n.data.toList l m = false) := Lib.hid (by simp [rightT]; omega)
        have t1 : decide (l ≤ (4 : Int)) = false := by simpa using h2
        go_enter Tryz.func17, Tryz.ntmps17
        go_wp2
        go_quiet (exact (HN _).out.mono fun _ _ h => ⟨h.1, _, h.2.symm⟩)
        go_wp2
        go_ret
        exact ⟨ret_bb hr.out.symm, bdraw HB.out _⟩
    · have hr : Hid (rightT n.data.toList l m = false) := Lib.hid (by simp [rightT]; omega)
      have t1 : decide ((0 : Int) ≤ l) = false := by simpa using h1
      go_enter Tryz.func17, Tryz.ntmps17
      go_wp2
      go_quiet (exact (HN _).out.mono fun _ _ h => ⟨h.1, _, h.2.symm⟩)
      go_wp2
      go_ret
      exact ⟨ret_bb hr.out.symm, bdraw HB.out _⟩
end Go.Proofs.YtcfdfgbobnocnaaGreatDoor
namespace Go.Proofs.YtcfdfgbobnocnaaGreatDoor
open Go.RowKit

set_option maxRecDepth 100000 in
theorem rname_any (s : ByteArray) (w : World) (hs : s.size ≤ 9223372036854775807) : Calls Tryz.prog 40 #[.string s] w fun e w' => e = .returned (.bool (nameB s.data.toList)) ∧ w = w' := by
  by_cases hn : s.size = 0
  · have hd : Hid (nameB s.data.toList = false) := Lib.hid (by
      have : s.data.toList = [] := List.eq_nil_of_length_eq_zero (by rw [← Lib.size_eq]; exact hn)
      rw [this]; rfl)
    have hem : s.toList = [] := by
      rw [Lib.toList_data]
      exact List.eq_nil_of_length_eq_zero (by rw [← Lib.size_eq]; exact hn)
    have hem' : s.toList.isEmpty = true := by rw [hem]; rfl
    clear hem
    go_enter Tryz.func40, Tryz.ntmps40
    go_wp2
    go_ret
    exact ⟨ret_bool hd.out.symm, rfl⟩
  · have hp : 0 < s.size := by omega
    have hem' : s.toList.isEmpty = false := by
      rw [Lib.toList_data]
      cases h : s.data.toList with
      | nil => have h' := Lib.size_eq s; rw [h] at h'; have h'' : s.size = 0 := h'; omega
      | cons _ _ => rfl
    have hne : Hid (s.toList.isEmpty = false) := Lib.hid hem'
    cases hl : letB (s[0].toNat : Int)
    · have hd : Hid (nameB s.data.toList = false) := Lib.hid (name_stop0 hp hl)
      clear hn
      go_enter Tryz.func40, Tryz.ntmps40
      go_wp2_with (go_at_call 55; refine (start_any _ _).mono ?_; rintro e w' ⟨rfl, rfl⟩)
      go_ret
      exact ⟨ret_bool hd.out.symm, rfl⟩
    · have h1 : Hid (nameTo s 1) := Lib.hid (nameTo_letter (k := 0) hp (.inl rfl) hl)
      clear hn
      go_enter Tryz.func40, Tryz.ntmps40
      go_wp2_with (go_at_call 55; refine (start_any _ _).mono ?_; rintro e w' ⟨rfl, rfl⟩)
      clear hl
      go_loopg [3] (s.size - 1) (fun g i wx => ∃ k : Nat, 1 ≤ k ∧ k + g = s.size ∧ i = .int .i64 k ∧ Aside (nameTo s k) ∧ w = wx)
      case atStart => exact ⟨1, by omega, by omega, rfl, Aside.intro h1.out, rfl⟩
      case round =>
        obtain ⟨k, hk1, hk, rfl, H, rfl⟩ := hrel
        cases gk with
        | zero =>
          obtain rfl : k = s.size := by omega
          have hst : Hid (nameB s.data.toList = true) := Lib.hid (by rw [name_done H.out, hne.out]; rfl)
          clear H hk1
          go_wp2
          go_ret
          exact ⟨ret_bool hst.out.symm, rfl⟩
        | succ g =>
          have hlt : k < s.size := by omega
          have hlt' : (k : Int) < (s.size : Int) := by omega
          cases hl : letB (s[k].toNat : Int)
          · cases hd : digB (s[k].toNat : Int)
            · have hst := Lib.hid (name_stop (s := s) hlt (by omega) hl hd)
              clear H
              go_wp2_with (first
                | (go_at_call 55; refine (start_any _ _).mono ?_; rintro e w' ⟨rfl, rfl⟩)
                | (go_at_call 56; refine (rdigit_any _ _).mono ?_; rintro e w' ⟨rfl, rfl⟩))
              go_ret
              exact ⟨ret_bool hst.out.symm, rfl⟩
            · have hst := Lib.hid (nameTo_digit (s := s) hlt (by omega) H.out hd)
              clear H
              go_wp2_with (first
                | (go_at_call 55; refine (start_any _ _).mono ?_; rintro e w' ⟨rfl, rfl⟩)
                | (go_at_call 56; refine (rdigit_any _ _).mono ?_; rintro e w' ⟨rfl, rfl⟩))
              go_roundg g
              case measure => omega
              case rel => exact ⟨k + 1, by omega, by omega, by go_num, Aside.intro hst.out, rfl⟩
          · have hst := Lib.hid (nameTo_letter (s := s) hlt H.out hl)
            clear H
            go_wp2_with (first
              | (go_at_call 55; refine (start_any _ _).mono ?_; rintro e w' ⟨rfl, rfl⟩)
              | (go_at_call 56; refine (rdigit_any _ _).mono ?_; rintro e w' ⟨rfl, rfl⟩))
            go_roundg g
            case measure => omega
            case rel => exact ⟨k + 1, by omega, by omega, by go_num, Aside.intro hst.out, rfl⟩
set_option maxRecDepth 100000 in
set_option maxHeartbeats 2000000 in
theorem rtright_any (n : ByteArray) (l m : Int) (w : World) (hn : n.size ≤ 9223372036854775807) : Calls Tryz.prog 24 #[.agg #[.string n, .int .i64 l, .int .i64 m]] w fun e w' => e = .returned (.bool (rightT n.data.toList l m)) ∧ Below w.heap.size w w' := by
  have HN := fun w => Lib.hid (rname_any n w hn)
  have HB := Lib.hid (below_new (w := w) (cs := #[.string n, .int .i64 l, .int .i64 m]) (t := 26))
  cases hb : nameB n.data.toList
  · have hr : Hid (rightT n.data.toList l m = false) := Lib.hid (by simp [rightT, hb])
    rw [hb] at HN
    clear hb
    go_enter Tryz.func24, Tryz.ntmps24
    go_wp2_with fail
    refine (HN _).out.mono ?_
    rintro e w1 ⟨rfl, rfl⟩
    go_wp2
    go_ret
    exact ⟨ret_bb hr.out.symm, HB.out⟩
  · rw [hb] at HN
    have hb' := Lib.hid hb
    clear hb
    by_cases h1 : 0 ≤ l
    · by_cases h2 : l ≤ 4
      · by_cases h3 : 0 ≤ m
        · have t1 : decide ((0 : Int) ≤ m) = true := by simpa using h3
          rcases five h1 h2 with rfl | rfl | rfl | rfl | rfl
          · by_cases h4 : m < 2
            · have hr : Hid (rightT n.data.toList 0 m = true) := Lib.hid (right_of hb'.out (by omega) (by omega) h3 (by simpa using h4))
              have t2 : decide (m < 2) = true := by simpa using h4
              go_enter Tryz.func24, Tryz.ntmps24
              go_wp2_with fail
              refine (HN _).out.mono ?_
              rintro e w1 ⟨rfl, rfl⟩
              go_wp2
              go_ret
              exact ⟨ret_bb hr.out.symm, HB.out⟩
            · have hr : Hid (rightT n.data.toList 0 m = false) := Lib.hid (by simp [rightT]; intro _ _; simp at h4; omega)
              have t2 : decide (m < 2) = false := by simpa using h4
              go_enter Tryz.func24, Tryz.ntmps24
              go_wp2_with fail
              refine (HN _).out.mono ?_
              rintro e w1 ⟨rfl, rfl⟩
              go_wp2
              go_ret
              exact ⟨ret_bb hr.out.symm, HB.out⟩
          · by_cases h4 : m < 4
            · have hr : Hid (rightT n.data.toList 1 m = true) := Lib.hid (right_of hb'.out (by omega) (by omega) h3 (by simpa using h4))
              have t2 : decide (m < 4) = true := by simpa using h4
              go_enter Tryz.func24, Tryz.ntmps24
              go_wp2_with fail
              refine (HN _).out.mono ?_
              rintro e w1 ⟨rfl, rfl⟩
              go_wp2
              go_ret
              exact ⟨ret_bb hr.out.symm, HB.out⟩
            · have hr : Hid (rightT n.data.toList 1 m = false) := Lib.hid (by simp [rightT]; intro _ _; simp at h4; omega)
              have t2 : decide (m < 4) = false := by simpa using h4
              go_enter Tryz.func24, Tryz.ntmps24
              go_wp2_with fail
              refine (HN _).out.mono ?_
              rintro e w1 ⟨rfl, rfl⟩
              go_wp2
              go_ret
              exact ⟨ret_bb hr.out.symm, HB.out⟩
          · by_cases h4 : m < 8
            · have hr : Hid (rightT n.data.toList 2 m = true) := Lib.hid (right_of hb'.out (by omega) (by omega) h3 (by simpa using h4))
              have t2 : decide (m < 8) = true := by simpa using h4
              go_enter Tryz.func24, Tryz.ntmps24
              go_wp2_with fail
              refine (HN _).out.mono ?_
              rintro e w1 ⟨rfl, rfl⟩
              go_wp2
              go_ret
              exact ⟨ret_bb hr.out.symm, HB.out⟩
            · have hr : Hid (rightT n.data.toList 2 m = false) := Lib.hid (by simp [rightT]; intro _ _; simp at h4; omega)
              have t2 : decide (m < 8) = false := by simpa using h4
              go_enter Tryz.func24, Tryz.ntmps24
              go_wp2_with fail
              refine (HN _).out.mono ?_
              rintro e w1 ⟨rfl, rfl⟩
              go_wp2
              go_ret
              exact ⟨ret_bb hr.out.symm, HB.out⟩
          · by_cases h4 : m < 16
            · have hr : Hid (rightT n.data.toList 3 m = true) := Lib.hid (right_of hb'.out (by omega) (by omega) h3 (by simpa using h4))
              have t2 : decide (m < 16) = true := by simpa using h4
              go_enter Tryz.func24, Tryz.ntmps24
              go_wp2_with fail
              refine (HN _).out.mono ?_
              rintro e w1 ⟨rfl, rfl⟩
              go_wp2
              go_ret
              exact ⟨ret_bb hr.out.symm, HB.out⟩
            · have hr : Hid (rightT n.data.toList 3 m = false) := Lib.hid (by simp [rightT]; intro _ _; simp at h4; omega)
              have t2 : decide (m < 16) = false := by simpa using h4
              go_enter Tryz.func24, Tryz.ntmps24
              go_wp2_with fail
              refine (HN _).out.mono ?_
              rintro e w1 ⟨rfl, rfl⟩
              go_wp2
              go_ret
              exact ⟨ret_bb hr.out.symm, HB.out⟩
          · by_cases h4 : m < 32
            · have hr : Hid (rightT n.data.toList 4 m = true) := Lib.hid (right_of hb'.out (by omega) (by omega) h3 (by simpa using h4))
              have t2 : decide (m < 32) = true := by simpa using h4
              go_enter Tryz.func24, Tryz.ntmps24
              go_wp2_with fail
              refine (HN _).out.mono ?_
              rintro e w1 ⟨rfl, rfl⟩
              go_wp2
              go_ret
              exact ⟨ret_bb hr.out.symm, HB.out⟩
            · have hr : Hid (rightT n.data.toList 4 m = false) := Lib.hid (by simp [rightT]; intro _ _; simp at h4; omega)
              have t2 : decide (m < 32) = false := by simpa using h4
              go_enter Tryz.func24, Tryz.ntmps24
              go_wp2_with fail
              refine (HN _).out.mono ?_
              rintro e w1 ⟨rfl, rfl⟩
              go_wp2
              go_ret
              exact ⟨ret_bb hr.out.symm, HB.out⟩
        · have hr : Hid (rightT n.data.toList l m = false) := Lib.hid (by simp [rightT]; omega)
          have t1 : decide ((0 : Int) ≤ m) = false := by simpa using h3
          go_enter Tryz.func24, Tryz.ntmps24
          go_wp2_with fail
          refine (HN _).out.mono ?_
          rintro e w1 ⟨rfl, rfl⟩
          go_wp2
          go_ret
          exact ⟨ret_bb hr.out.symm, HB.out⟩
      · have hr : Hid (rightT n.data.toList l m = false) := Lib.hid (by simp [rightT]; omega)
        have t1 : decide (l ≤ (4 : Int)) = false := by simpa using h2
        go_enter Tryz.func24, Tryz.ntmps24
        go_wp2_with fail
        refine (HN _).out.mono ?_
        rintro e w1 ⟨rfl, rfl⟩
        go_wp2
        go_ret
        exact ⟨ret_bb hr.out.symm, HB.out⟩
    · have hr : Hid (rightT n.data.toList l m = false) := Lib.hid (by simp [rightT]; omega)
      have t1 : decide ((0 : Int) ≤ l) = false := by simpa using h1
      go_enter Tryz.func24, Tryz.ntmps24
      go_wp2_with fail
      refine (HN _).out.mono ?_
      rintro e w1 ⟨rfl, rfl⟩
      go_wp2
      go_ret
      exact ⟨ret_bb hr.out.symm, HB.out⟩
end Go.Proofs.YtcfdfgbobnocnaaGreatDoor
