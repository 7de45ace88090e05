/- The walk of token's word. -/
import Derived.Test.YtcdcfhplkimecaaGreatDoorTMark
namespace Go.Proofs.YtcdcfhplkimecaaGreatDoor
open Go.RowKit

def wordTo (l : List UInt8) (k : Nat) : Prop := k = 0 ∨ wordN l = k + ((l.drop k).takeWhile nameU).length
theorem wordTo_start {l : List UInt8} (h : headB letU l = true) : wordTo l 1 := by
  cases l with
  | nil => cases h
  | cons b t =>
    have h' : letU b = true := h
    refine .inr ?_
    simp [wordN, h']
theorem wordTo_none {l : List UInt8} (h : headB letU l = false) : wordN l = 0 := by
  cases l with
  | nil => rfl
  | cons b t =>
    have h' : letU b = false := h
    simp [wordN, h']
theorem wordTo_next {l : List UInt8} {k : Nat} (h : wordTo l k) (hk : k ≠ 0) (hb : headB nameU (l.drop k) = true) : wordTo l (k + 1) := by
  rcases h with h | h
  · exact absurd h hk
  refine .inr ?_
  rw [h, show k + 1 = k + 1 from rfl, ← List.drop_drop]
  cases hl : l.drop k with
  | nil => rw [hl] at hb; cases hb
  | cons b t =>
    rw [hl] at hb
    have hb' : nameU b = true := hb
    rw [List.takeWhile_cons]
    simp [hb']
    omega
theorem wordTo_end {l : List UInt8} {k : Nat} (h : wordTo l k) (hk : k ≠ 0) (hb : headB nameU (l.drop k) = false) : wordN l = k := by
  rcases h with h | h
  · exact absurd h hk
  rw [h]
  cases hl : l.drop k with
  | nil => simp
  | cons b t =>
    rw [hl] at hb
    have hb' : nameU b = false := hb
    rw [List.takeWhile_cons]
    simp [hb']
theorem head_or (l : List UInt8) : headB nameU l = (headB letU l || headB digU l) := by
  cases l <;> rfl
theorem tletter_at (s : ByteArray) (k : Nat) (w : World) : Calls Tryz.prog 41 #[.string (s.extract k s.size)] w fun e w' => e = .returned (.bool (headB letU (s.data.toList.drop k))) ∧ w = w' := by
  have h := tletter_any (s.extract k s.size) w
  rwa [ext_data] at h
theorem tdigit_at (s : ByteArray) (k : Nat) (w : World) : Calls Tryz.prog 42 #[.string (s.extract k s.size)] w fun e w' => e = .returned (.bool (headB digU (s.data.toList.drop k))) ∧ w = w' := by
  have h := tdigit_any (s.extract k s.size) w
  rwa [ext_data] at h
theorem head_lt {s : ByteArray} {k : Nat} {p : UInt8 → Bool} (h : headB p (s.data.toList.drop k) = true) : k < s.size := by
  rcases Nat.lt_or_ge k s.size with h' | h'
  · exact h'
  · rw [drop_all s k h'] at h; cases h

set_option maxRecDepth 100000 in
theorem word_any (s : ByteArray) (w : World) (hs : s.size ≤ 9000) : Calls Tryz.prog 21 #[.string s] w fun e w' => e = .returned (tokS 2 (s.data.toList.take (wordN s.data.toList)) (wordN s.data.toList)) ∧ Below w.heap.size w w' := by
  go_enter Tryz.func21, Tryz.ntmps21
  go_wp2
  go_loopg [4] s.size (fun g i wx => ∃ k : Nat, k + g = s.size ∧ i = .int .i64 k ∧ wx = w.alloc (.cells #[.int .i64 0, .string ⟨#[]⟩] 41) ∧ Aside (wordTo s.data.toList k))
  case atStart => exact ⟨0, by omega, rfl, rfl, Aside.intro (.inl rfl)⟩
  case round =>
    obtain ⟨k, hk, rfl, rfl, H⟩ := hrel
    have hks : (k : Int) ≤ (s.size : Int) := by omega
    have hk0 : (0 : Int) ≤ (k : Int) := by omega
    have HL := Lib.hid (tletter_at s k (w.alloc (.cells #[.int .i64 0, .string ⟨#[]⟩] 41)))
    have HD := Lib.hid (tdigit_at s k (w.alloc (.cells #[.int .i64 0, .string ⟨#[]⟩] 41)))
    cases hb : headB letU (s.data.toList.drop k)
    · rcases Nat.eq_zero_or_pos k with hz | hz
      · have hr : Hid (wordN s.data.toList = 0) := Lib.hid (wordTo_none (by rwa [hz, List.drop_zero] at hb))
        have hb' := Lib.hid hb
        have e0 : ((k : Int) == 0) = true := by simp; omega
        have e1 : ¬ (0 : Int) < (k : Int) := by omega
        clear H hb hz
        go_wp2_with fail
        refine HL.out.mono ?_
        rintro e w1 ⟨rfl, rfl⟩
        rw [hb'.out]
        go_wp2_with fail
        refine ret_tok rfl rfl rfl (heap_alloc_last _ _) ⟨?_, below_new⟩
        rw [hr.out]
        rfl
      · have hz' : (0 : Int) < (k : Int) := by omega
        cases hd : headB digU (s.data.toList.drop k)
        · have hr : Hid (wordN s.data.toList = k) := Lib.hid (wordTo_end H.out (by omega) (by rw [head_or, hb, hd]; rfl))
          have hb' := Lib.hid hb
          have hd' := Lib.hid hd
          have e0 : ((k : Int) == 0) = false := by simp; omega
          clear H hb hd
          go_wp2_with fail
          refine HL.out.mono ?_
          rintro e w1 ⟨rfl, rfl⟩
          rw [hb'.out]
          go_wp2_with fail
          refine HD.out.mono ?_
          rintro e w1 ⟨rfl, rfl⟩
          rw [hd'.out]
          go_wp2_with fail
          refine ret_tok rfl rfl rfl (heap_alloc_last _ _) ⟨?_, below_new⟩
          rw [hr.out, tokS_yes (by omega)]
          exact ret_t (mk_of (ext_take s k)).symm rfl
        · have hlt := head_lt hd
          have hr := Lib.hid (wordTo_next H.out (by omega) (by rw [head_or, hb, hd]; rfl))
          have hb' := Lib.hid hb
          have hd' := Lib.hid hd
          clear H hb hd
          go_wp2_with fail
          refine HL.out.mono ?_
          rintro e w1 ⟨rfl, rfl⟩
          rw [hb'.out]
          go_wp2_with fail
          refine HD.out.mono ?_
          rintro e w1 ⟨rfl, rfl⟩
          rw [hd'.out]
          go_wp2_with fail
          go_roundg (gk - 1)
          case measure => omega
          case rel => exact ⟨k + 1, by omega, by go_num, rfl, Aside.intro hr.out⟩
    · have hlt := head_lt hb
      have hr : Hid (wordTo s.data.toList (k + 1)) := Lib.hid (by
        rcases Nat.eq_zero_or_pos k with hz | hz
        · subst hz
          exact wordTo_start (by rwa [List.drop_zero] at hb)
        · exact wordTo_next H.out (by omega) (by rw [head_or, hb]; rfl))
      have hb' := Lib.hid hb
      clear H hb
      go_wp2_with fail
      refine HL.out.mono ?_
      rintro e w1 ⟨rfl, rfl⟩
      rw [hb'.out]
      go_wp2_with fail
      go_roundg (gk - 1)
      case measure => omega
      case rel => exact ⟨k + 1, by omega, by go_num, rfl, Aside.intro hr.out⟩
end Go.Proofs.YtcdcfhplkimecaaGreatDoor
