/- The walk of token's gap. -/
import Derived.Test.YtfinboplkjijhaaGreatDoorTIdx2
namespace Go.Proofs.YtfinboplkjijhaaGreatDoor
open Go.RowKit

theorem indexAny_ends (s : ByteArray) (w : World) (hs : s.size ≤ 9000) : Calls Tryz.prog 50 #[.string s, .string ⟨#[10, 13]⟩] w fun e w' => e = .returned (.int .i64 (Lib.indexAny s.data.toList [10, 13])) ∧ Below w.heap.size w w' := by
  by_cases h8 : s.size ≤ 8
  · exact indexAny_short s w h8
  · exact indexAny_long s ⟨#[10, 13]⟩ w (by decide) (by omega) (by omega) (by decide) (fun j b hb => by
      match j, hb with
      | 0, hb => cases hb; decide
      | 1, hb => cases hb; decide
      | j + 2, hb => simp at hb)
theorem idx_eol : ∀ l : List UInt8, Lib.indexAny l [10, 13] = if (l.takeWhile noEol).length < l.length then ((l.takeWhile noEol).length : Int) else -1 := by
  intro l
  induction l with
  | nil => rfl
  | cons b t ih =>
    have hb : ([10, 13] : List UInt8).contains b = !noEol b := by unfold noEol; cases h10 : (b == 10) <;> cases h13 : (b == 13) <;> simp_all
    rw [Lib.indexAny, hb, List.takeWhile_cons]
    cases hn : noEol b
    · simp
    · have := takeWhile_le noEol t
      simp only [Bool.not_true, Bool.false_eq_true, if_false, if_true, List.length_cons]
      rw [ih]
      by_cases h : (t.takeWhile noEol).length < t.length
      · rw [if_pos h, if_neg (show ¬ (((t.takeWhile noEol).length : Int) == -1) = true by simp), if_pos (show (t.takeWhile noEol).length + 1 < t.length + 1 by omega)]
        omega
      · rw [if_neg h, if_pos (show ((-1 : Int) == -1) = true by rfl), if_neg (show ¬ (t.takeWhile noEol).length + 1 < t.length + 1 by omega)]
theorem gapL_at (s : ByteArray) (h : 0 < s.size) (hp : pre [239, 187, 191] s.data.toList = false) : gapL s.data.toList = if isGap s[0] then 1 else if s[0] == 35 then 1 + ((s.data.toList.drop 1).takeWhile noEol).length else 0 := by
  rw [cons_at s h] at hp
  conv => lhs; rw [cons_at s h]
  simp only [gapL, hp]
  rfl

set_option maxRecDepth 100000 in
set_option maxHeartbeats 1000000 in
theorem gap_any (s : ByteArray) (w : World) (hs : s.size ≤ 9000) : Calls Tryz.prog 23 #[.string s] w fun e w' => e = .returned (.int .i64 (gapL s.data.toList)) ∧ Below w.heap.size w w' := by
  cases hp : pre [239, 187, 191] s.data.toList
  · have HP := Lib.hid (hasP s ⟨#[239, 187, 191]⟩ w false hp)
    rcases Nat.eq_zero_or_pos s.size with h0 | h0
    · have hr : Hid (gapL s.data.toList = 0) := Lib.hid (by rw [nil_of_size h0]; rfl)
      have he := empty_yes h0
      clear hp
      go_enter Tryz.func23, Tryz.ntmps23
      go_wp2_with fail
      refine HP.out.mono ?_
      rintro e w1 ⟨rfl, rfl⟩
      go_wp2_with fail
      go_ret
      exact ⟨by rw [hr.out]; rfl, Below.refl _ _⟩
    have he := empty_no h0
    have hg := gapL_at s h0 hp
    have hI := indexAny_ends s w hs
    rw [idx_eol, cons_at s h0] at hI
    have h0' : (0 : Int) < (s.size : Int) := by omega
    clear hp
    cases c9 : (s[0] == 9)
    · obtain ⟨a1, a2⟩ := beqF c9 9 rfl
      cases c10 : (s[0] == 10)
      · obtain ⟨b1, b2⟩ := beqF c10 10 rfl
        cases c13 : (s[0] == 13)
        · obtain ⟨c1, c2⟩ := beqF c13 13 rfl
          cases c32 : (s[0] == 32)
          · obtain ⟨d1, d2⟩ := beqF c32 32 rfl
            cases c44 : (s[0] == 44)
            · obtain ⟨f1, f2⟩ := beqF c44 44 rfl
              have hgn : isGap s[0] = false := by simp [isGap, c9, c10, c13, c32, c44]
              cases c35 : (s[0] == 35)
              · obtain ⟨g1, g2⟩ := beqF c35 35 rfl
                have hr : Hid (gapL s.data.toList = 0) := Lib.hid (by rw [hg, hgn, c35]; rfl)
                clear hg hI hgn c9 c10 c13 c32 c44 c35
                go_enter Tryz.func23, Tryz.ntmps23
                go_wp2_with fail
                refine HP.out.mono ?_
                rintro e w1 ⟨rfl, rfl⟩
                go_wp2_with fail
                go_ret
                exact ⟨by rw [hr.out]; rfl, Below.refl _ _⟩
              · obtain ⟨g1, g2⟩ := beqT c35 35 rfl
                have h35 : s[0] = 35 := by simpa using c35
                rw [hgn, c35] at hg
                simp only [Bool.false_eq_true, if_false, if_true] at hg
                have htl := takeWhile_le noEol (s.data.toList.drop 1)
                rw [List.length_drop, len_data] at htl
                rw [List.takeWhile_cons, show noEol s[0] = true by rw [h35]; rfl, if_pos rfl, List.length_cons, List.length_cons, List.length_drop, len_data] at hI
                obtain ⟨m, hm⟩ : ∃ m, ((s.data.toList.drop 1).takeWhile noEol).length = m := ⟨_, rfl⟩
                rw [hm] at hI hg htl
                have hr := Lib.hid hg
                clear hg hgn c9 c10 c13 c32 c44 c35 hm h35
                by_cases hlt : m + 1 < s.size - 1 + 1
                · rw [if_pos hlt] at hI
                  have HI := Lib.hid hI
                  clear hI
                  have hpos : (0 : Int) < ((m + 1 : Nat) : Int) := by omega
                  go_enter Tryz.func23, Tryz.ntmps23
                  go_wp2_with fail
                  refine HP.out.mono ?_
                  rintro e w1 ⟨rfl, rfl⟩
                  go_wp2_with fail
                  refine HI.out.mono ?_
                  rintro e w1 ⟨rfl, hb⟩
                  have HB := Lib.hid hb
                  clear hb
                  go_wp2_with fail
                  go_ret
                  exact ⟨ret_i (by rw [hr.out]; omega), HB.out⟩
                · rw [if_neg hlt] at hI
                  have HI := Lib.hid hI
                  clear hI
                  go_enter Tryz.func23, Tryz.ntmps23
                  go_wp2_with fail
                  refine HP.out.mono ?_
                  rintro e w1 ⟨rfl, rfl⟩
                  go_wp2_with fail
                  refine HI.out.mono ?_
                  rintro e w1 ⟨rfl, hb⟩
                  have HB := Lib.hid hb
                  clear hb
                  go_wp2_with fail
                  go_ret
                  exact ⟨ret_i (by rw [hr.out]; omega), HB.out⟩
            · obtain ⟨f1, f2⟩ := beqT c44 44 rfl
              have hr : Hid (gapL s.data.toList = 1) := Lib.hid (by rw [hg]; simp [isGap, c9, c10, c13, c32, c44])
              clear hg hI c9 c10 c13 c32 c44
              go_enter Tryz.func23, Tryz.ntmps23
              go_wp2_with fail
              refine HP.out.mono ?_
              rintro e w1 ⟨rfl, rfl⟩
              go_wp2_with fail
              go_ret
              exact ⟨by rw [hr.out]; rfl, Below.refl _ _⟩
          · obtain ⟨d1, d2⟩ := beqT c32 32 rfl
            have hr : Hid (gapL s.data.toList = 1) := Lib.hid (by rw [hg]; simp [isGap, c9, c10, c13, c32])
            clear hg hI c9 c10 c13 c32
            go_enter Tryz.func23, Tryz.ntmps23
            go_wp2_with fail
            refine HP.out.mono ?_
            rintro e w1 ⟨rfl, rfl⟩
            go_wp2_with fail
            go_ret
            exact ⟨by rw [hr.out]; rfl, Below.refl _ _⟩
        · obtain ⟨c1, c2⟩ := beqT c13 13 rfl
          have hr : Hid (gapL s.data.toList = 1) := Lib.hid (by rw [hg]; simp [isGap, c9, c10, c13])
          clear hg hI c9 c10 c13
          go_enter Tryz.func23, Tryz.ntmps23
          go_wp2_with fail
          refine HP.out.mono ?_
          rintro e w1 ⟨rfl, rfl⟩
          go_wp2_with fail
          go_ret
          exact ⟨by rw [hr.out]; rfl, Below.refl _ _⟩
      · obtain ⟨b1, b2⟩ := beqT c10 10 rfl
        have hr : Hid (gapL s.data.toList = 1) := Lib.hid (by rw [hg]; simp [isGap, c9, c10])
        clear hg hI c9 c10
        go_enter Tryz.func23, Tryz.ntmps23
        go_wp2_with fail
        refine HP.out.mono ?_
        rintro e w1 ⟨rfl, rfl⟩
        go_wp2_with fail
        go_ret
        exact ⟨by rw [hr.out]; rfl, Below.refl _ _⟩
    · obtain ⟨a1, a2⟩ := beqT c9 9 rfl
      have hr : Hid (gapL s.data.toList = 1) := Lib.hid (by rw [hg]; simp [isGap, c9])
      clear hg hI c9
      go_enter Tryz.func23, Tryz.ntmps23
      go_wp2_with fail
      refine HP.out.mono ?_
      rintro e w1 ⟨rfl, rfl⟩
      go_wp2_with fail
      go_ret
      exact ⟨by rw [hr.out]; rfl, Below.refl _ _⟩
  · have HP := Lib.hid (hasP s ⟨#[239, 187, 191]⟩ w true hp)
    have hr : Hid (gapL s.data.toList = 3) := Lib.hid (by
      have h3 := pre_len hp
      rw [len_data] at h3
      have h0 : 0 < s.size := by simp at h3; omega
      have hc := cons_at s h0
      rw [hc] at hp ⊢
      have h239 : s[0] = 239 := by
        unfold pre at hp
        rw [List.isPrefixOf_cons_cons] at hp
        simp only [Bool.and_eq_true, beq_iff_eq] at hp
        exact hp.1.symm
      rw [h239] at hp ⊢
      simp only [gapL, hp]
      rfl)
    clear hp
    go_enter Tryz.func23, Tryz.ntmps23
    go_wp2_with fail
    refine HP.out.mono ?_
    rintro e w1 ⟨rfl, rfl⟩
    go_wp2_with fail
    go_ret
    exact ⟨by rw [hr.out]; rfl, Below.refl _ _⟩
theorem gap_at (s : ByteArray) (k : Nat) (w : World) (hs : s.size ≤ 9000) : Calls Tryz.prog 23 #[.string (s.extract k s.size)] w fun e w' => e = .returned (.int .i64 (gapL (s.data.toList.drop k))) ∧ Below w.heap.size w w' := by
  have h := gap_any (s.extract k s.size) w (by rw [ext_size]; omega)
  rwa [ext_data] at h
end Go.Proofs.YtfinboplkjijhaaGreatDoor
