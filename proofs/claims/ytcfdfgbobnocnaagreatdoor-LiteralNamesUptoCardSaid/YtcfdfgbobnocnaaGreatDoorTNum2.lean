/- The walks of token's fraction and exponent. -/
import Derived.Test.YtcfdfgbobnocnaaGreatDoorTNum
namespace Go.Proofs.YtcfdfgbobnocnaaGreatDoor
open Go.RowKit

theorem pre_one (a : UInt8) (l : List UInt8) : pre [a] l = headB (fun b => b == a) l := by
  cases l with
  | nil => rfl
  | cons b t =>
    unfold pre headB
    rw [List.isPrefixOf_cons_cons]
    cases h : (b == a)
    · have h1 : b ≠ a := by simpa using h
      have h2 : (a == b) = false := by simpa using fun e => h1 e.symm
      simp [h1, h2]
    · have : b = a := by simpa using h
      subst this
      simp
theorem hasP (s q : ByteArray) (w : World) (b : Bool) (h : pre q.data.toList s.data.toList = b) : Calls Tryz.prog 105 #[.string s, .string q] w fun e w' => e = .returned (.bool b) ∧ w = w' :=
  (hasPrefix_any s q w).mono fun _ _ ⟨he, hw⟩ => ⟨by rw [he, ← h]; rfl, hw.symm⟩
theorem beqT {b c : UInt8} (h : (b == c) = true) (n : Int) (hn : (c.toNat : Int) = n) : ((b.toNat : Int) == n) = true ∧ ((b.toNat : Int) != n) = false := by
  have : b = c := by simpa using h
  subst this
  simp [hn]
theorem beqF {b c : UInt8} (h : (b == c) = false) (n : Int) (hn : (c.toNat : Int) = n) : ((b.toNat : Int) == n) = false ∧ ((b.toNat : Int) != n) = true := by
  have hne : b ≠ c := by simpa using h
  have : (b.toNat : Int) ≠ n := fun e => hne (UInt8.toNat_inj.1 (by omega))
  simp [this]
theorem digits_at (s : ByteArray) (k : Nat) (w : World) (hs : s.size ≤ 1100000) : Calls Tryz.prog 100 #[.string (s.extract k s.size)] w fun e w' => e = .returned (.int .i64 (runL (s.data.toList.drop k))) ∧ w = w' := by
  have h := digits_any (s.extract k s.size) w (by rw [ext_size]; omega)
  rwa [ext_data] at h

set_option maxRecDepth 100000 in
theorem fraction_any (s : ByteArray) (w : World) (hs : s.size ≤ 1100000) : Calls Tryz.prog 101 #[.string s] w fun e w' => e = .returned (.int .i64 (fracL s.data.toList)) ∧ w = w' := by
  cases hp : pre [46] s.data.toList
  · have HP := Lib.hid (hasP s ⟨#[46]⟩ w false hp)
    have hr : Hid (fracL s.data.toList = 0) := Lib.hid (by
      cases hl : s.data.toList with
      | nil => rfl
      | cons b t =>
        rw [hl] at hp
        have : (b == 46) = false := by
          cases hb : (b == 46)
          · rfl
          · have : b = 46 := by simpa using hb
            subst this
            cases hp
        simp only [fracL, this]
        rfl)
    clear hp
    go_enter Tryz.func101, Tryz.ntmps101
    go_wp2_with fail
    refine HP.out.mono ?_
    rintro e w1 ⟨rfl, rfl⟩
    go_wp2_with fail
    go_ret
    exact ⟨ret_i (by rw [hr.out]; rfl), rfl⟩
  · have HP := Lib.hid (hasP s ⟨#[46]⟩ w true hp)
    have h0 : 1 ≤ s.size := by have := pre_len hp; rw [len_data] at this; exact this
    have h0' : (1 : Int) ≤ (s.size : Int) := by omega
    have hc : s[0] = 46 := by
      rw [cons_at s h0] at hp
      unfold pre at hp
      rw [List.isPrefixOf_cons_cons] at hp
      simp at hp
      exact hp.symm
    have hr : Hid (fracL s.data.toList = if runL (s.data.toList.drop 1) = 0 then 0 else 1 + runL (s.data.toList.drop 1)) := Lib.hid (by
      rw [cons_at s h0, hc]; simp [fracL])
    have hD := digits_at s 1 w hs
    have hrl := runL_le (s.data.toList.drop 1)
    rw [List.length_drop, len_data] at hrl
    obtain ⟨r, hR⟩ : ∃ r, runL (s.data.toList.drop 1) = r := ⟨_, rfl⟩
    rw [hR] at hD hrl
    have HD := Lib.hid hD
    have HR := Lib.hid hR
    clear hp hc hD hR
    rcases Nat.eq_zero_or_pos r with hz | hz
    · have e0 : ((r : Int) == 0) = true := by simp; omega
      have hz' := Lib.hid hz
      clear hz
      go_enter Tryz.func101, Tryz.ntmps101
      go_wp2_with fail
      refine HP.out.mono ?_
      rintro e w1 ⟨rfl, rfl⟩
      go_wp2_with fail
      refine HD.out.mono ?_
      rintro e w1 ⟨rfl, rfl⟩
      go_wp2_with fail
      go_ret
      exact ⟨ret_i (by rw [hr.out, HR.out, if_pos hz'.out]; rfl), rfl⟩
    · have e0 : ((r : Int) == 0) = false := by simp; omega
      have hz' := Lib.hid hz
      clear hz
      go_enter Tryz.func101, Tryz.ntmps101
      go_wp2_with fail
      refine HP.out.mono ?_
      rintro e w1 ⟨rfl, rfl⟩
      go_wp2_with fail
      refine HD.out.mono ?_
      rintro e w1 ⟨rfl, rfl⟩
      go_wp2_with fail
      go_ret
      exact ⟨ret_i (by have := hz'.out; rw [hr.out, HR.out, if_neg (by omega)]; omega), rfl⟩

theorem expoL_at (s : ByteArray) (h : 0 < s.size) : expoL s.data.toList = if s[0] == 101 || s[0] == 69 then (if runL (s.data.toList.drop (1 + signL (s.data.toList.drop 1))) = 0 then 0 else 1 + signL (s.data.toList.drop 1) + runL (s.data.toList.drop (1 + signL (s.data.toList.drop 1)))) else 0 := by
  have e : ∀ k, s.data.toList.drop (1 + k) = (s.data.toList.drop 1).drop k := fun k => by rw [List.drop_drop]
  rw [e]
  conv => lhs; rw [cons_at s h]
  rfl

set_option maxRecDepth 100000 in
theorem exponent_any (s : ByteArray) (w : World) (hs : s.size ≤ 1100000) : Calls Tryz.prog 102 #[.string s] w fun e w' => e = .returned (.int .i64 (expoL s.data.toList)) ∧ w = w' := by
  rcases Nat.eq_zero_or_pos s.size with h0 | h0
  · have hr : Hid (expoL s.data.toList = 0) := Lib.hid (by rw [nil_of_size h0]; rfl)
    have he := empty_yes h0
    go_enter Tryz.func102, Tryz.ntmps102
    go_wp2_with fail
    go_ret
    exact ⟨ret_i (by rw [hr.out]; rfl), rfl⟩
  have he := empty_no h0
  have HE := Lib.hid (expoL_at s h0)
  have h0' : (0 : Int) < (s.size : Int) := by omega
  cases ha : (s[0] == 101)
  · obtain ⟨a1, a2⟩ := beqF ha 101 rfl
    cases hb : (s[0] == 69)
    · obtain ⟨b1, b2⟩ := beqF hb 69 rfl
      have hr : Hid (expoL s.data.toList = 0) := Lib.hid (by rw [HE.out, ha, hb]; rfl)
      clear HE ha hb
      go_enter Tryz.func102, Tryz.ntmps102
      go_wp2_with fail
      go_ret
      exact ⟨ret_i (by rw [hr.out]; rfl), rfl⟩
    · obtain ⟨b1, b2⟩ := beqT hb 69 rfl
      have hE : Hid ((s[0] == 101 || s[0] == 69) = true) := Lib.hid (by rw [hb, Bool.or_true])
      clear ha hb
      by_cases h1 : 1 < s.size
      · have h1' : (1 : Int) < (s.size : Int) := by omega
        have hcons := drop_at s 1 h1
        cases hp : (s[1] == 43)
        · obtain ⟨p1, p2⟩ := beqF hp 43 rfl
          cases hm : (s[1] == 45)
          · obtain ⟨m1, m2⟩ := beqF hm 45 rfl
            have hsg : signL (s.data.toList.drop 1) = 0 := by rw [hcons]; simp [signL, hp, hm]
            clear hcons hp hm
            have hr : Hid (expoL s.data.toList = if runL (s.data.toList.drop 1) = 0 then 0 else 1 + runL (s.data.toList.drop 1)) := Lib.hid (by rw [HE.out, hsg, if_pos hE.out])
            have hD := digits_at s 1 w hs
            have hrl := runL_le (s.data.toList.drop 1)
            rw [List.length_drop, len_data] at hrl
            obtain ⟨r, hR⟩ : ∃ r, runL (s.data.toList.drop 1) = r := ⟨_, rfl⟩
            rw [hR] at hD hrl
            have HD := Lib.hid hD
            have HR := Lib.hid hR
            clear hsg HE hE hD hR
            rcases Nat.eq_zero_or_pos r with hz | hz
            · have e0 : ((r : Int) == 0) = true := by simp; omega
              have hz' := Lib.hid hz
              clear hz
              go_enter Tryz.func102, Tryz.ntmps102
              go_wp2_with fail
              refine HD.out.mono ?_
              rintro e w1 ⟨rfl, rfl⟩
              go_wp2_with fail
              go_ret
              exact ⟨ret_i (by rw [hr.out, HR.out, if_pos hz'.out]; rfl), rfl⟩
            · have e0 : ((r : Int) == 0) = false := by simp; omega
              have hz' := Lib.hid hz
              clear hz
              go_enter Tryz.func102, Tryz.ntmps102
              go_wp2_with fail
              refine HD.out.mono ?_
              rintro e w1 ⟨rfl, rfl⟩
              go_wp2_with fail
              go_ret
              exact ⟨ret_i (by have := hz'.out; rw [hr.out, HR.out, if_neg (by omega)]; omega), rfl⟩
          · obtain ⟨m1, m2⟩ := beqT hm 45 rfl
            have hsg : signL (s.data.toList.drop 1) = 1 := by rw [hcons]; simp [signL, hp, hm]
            clear hcons hp hm
            have hr : Hid (expoL s.data.toList = if runL (s.data.toList.drop 2) = 0 then 0 else 2 + runL (s.data.toList.drop 2)) := Lib.hid (by rw [HE.out, hsg, if_pos hE.out])
            have hD := digits_at s 2 w hs
            have hrl := runL_le (s.data.toList.drop 2)
            rw [List.length_drop, len_data] at hrl
            obtain ⟨r, hR⟩ : ∃ r, runL (s.data.toList.drop 2) = r := ⟨_, rfl⟩
            rw [hR] at hD hrl
            have HD := Lib.hid hD
            have HR := Lib.hid hR
            clear hsg HE hE hD hR
            rcases Nat.eq_zero_or_pos r with hz | hz
            · have e0 : ((r : Int) == 0) = true := by simp; omega
              have hz' := Lib.hid hz
              clear hz
              go_enter Tryz.func102, Tryz.ntmps102
              go_wp2_with fail
              refine HD.out.mono ?_
              rintro e w1 ⟨rfl, rfl⟩
              go_wp2_with fail
              go_ret
              exact ⟨ret_i (by rw [hr.out, HR.out, if_pos hz'.out]; rfl), rfl⟩
            · have e0 : ((r : Int) == 0) = false := by simp; omega
              have hz' := Lib.hid hz
              clear hz
              go_enter Tryz.func102, Tryz.ntmps102
              go_wp2_with fail
              refine HD.out.mono ?_
              rintro e w1 ⟨rfl, rfl⟩
              go_wp2_with fail
              go_ret
              exact ⟨ret_i (by have := hz'.out; rw [hr.out, HR.out, if_neg (by omega)]; omega), rfl⟩
        · obtain ⟨p1, p2⟩ := beqT hp 43 rfl
          have hsg : signL (s.data.toList.drop 1) = 1 := by rw [hcons]; simp [signL, hp]
          clear hcons hp
          have hr : Hid (expoL s.data.toList = if runL (s.data.toList.drop 2) = 0 then 0 else 2 + runL (s.data.toList.drop 2)) := Lib.hid (by rw [HE.out, hsg, if_pos hE.out])
          have hD := digits_at s 2 w hs
          have hrl := runL_le (s.data.toList.drop 2)
          rw [List.length_drop, len_data] at hrl
          obtain ⟨r, hR⟩ : ∃ r, runL (s.data.toList.drop 2) = r := ⟨_, rfl⟩
          rw [hR] at hD hrl
          have HD := Lib.hid hD
          have HR := Lib.hid hR
          clear hsg HE hE hD hR
          rcases Nat.eq_zero_or_pos r with hz | hz
          · have e0 : ((r : Int) == 0) = true := by simp; omega
            have hz' := Lib.hid hz
            clear hz
            go_enter Tryz.func102, Tryz.ntmps102
            go_wp2_with fail
            refine HD.out.mono ?_
            rintro e w1 ⟨rfl, rfl⟩
            go_wp2_with fail
            go_ret
            exact ⟨ret_i (by rw [hr.out, HR.out, if_pos hz'.out]; rfl), rfl⟩
          · have e0 : ((r : Int) == 0) = false := by simp; omega
            have hz' := Lib.hid hz
            clear hz
            go_enter Tryz.func102, Tryz.ntmps102
            go_wp2_with fail
            refine HD.out.mono ?_
            rintro e w1 ⟨rfl, rfl⟩
            go_wp2_with fail
            go_ret
            exact ⟨ret_i (by have := hz'.out; rw [hr.out, HR.out, if_neg (by omega)]; omega), rfl⟩
      · have h1' : ¬ ((1 : Int) < (s.size : Int)) := by omega
        have hsg : signL (s.data.toList.drop 1) = 0 := by rw [drop_all s 1 (by omega)]; rfl
        have hr : Hid (expoL s.data.toList = if runL (s.data.toList.drop 1) = 0 then 0 else 1 + runL (s.data.toList.drop 1)) := Lib.hid (by rw [HE.out, hsg, if_pos hE.out])
        have hD := digits_at s 1 w hs
        have hrl := runL_le (s.data.toList.drop 1)
        rw [List.length_drop, len_data] at hrl
        obtain ⟨r, hR⟩ : ∃ r, runL (s.data.toList.drop 1) = r := ⟨_, rfl⟩
        rw [hR] at hD hrl
        have HD := Lib.hid hD
        have HR := Lib.hid hR
        clear hsg HE hE hD hR
        rcases Nat.eq_zero_or_pos r with hz | hz
        · have e0 : ((r : Int) == 0) = true := by simp; omega
          have hz' := Lib.hid hz
          clear hz
          go_enter Tryz.func102, Tryz.ntmps102
          go_wp2_with fail
          refine HD.out.mono ?_
          rintro e w1 ⟨rfl, rfl⟩
          go_wp2_with fail
          go_ret
          exact ⟨ret_i (by rw [hr.out, HR.out, if_pos hz'.out]; rfl), rfl⟩
        · have e0 : ((r : Int) == 0) = false := by simp; omega
          have hz' := Lib.hid hz
          clear hz
          go_enter Tryz.func102, Tryz.ntmps102
          go_wp2_with fail
          refine HD.out.mono ?_
          rintro e w1 ⟨rfl, rfl⟩
          go_wp2_with fail
          go_ret
          exact ⟨ret_i (by have := hz'.out; rw [hr.out, HR.out, if_neg (by omega)]; omega), rfl⟩
  · obtain ⟨a1, a2⟩ := beqT ha 101 rfl
    have hE : Hid ((s[0] == 101 || s[0] == 69) = true) := Lib.hid (by rw [ha, Bool.true_or])
    clear ha
    by_cases h1 : 1 < s.size
    · have h1' : (1 : Int) < (s.size : Int) := by omega
      have hcons := drop_at s 1 h1
      cases hp : (s[1] == 43)
      · obtain ⟨p1, p2⟩ := beqF hp 43 rfl
        cases hm : (s[1] == 45)
        · obtain ⟨m1, m2⟩ := beqF hm 45 rfl
          have hsg : signL (s.data.toList.drop 1) = 0 := by rw [hcons]; simp [signL, hp, hm]
          clear hcons hp hm
          have hr : Hid (expoL s.data.toList = if runL (s.data.toList.drop 1) = 0 then 0 else 1 + runL (s.data.toList.drop 1)) := Lib.hid (by rw [HE.out, hsg, if_pos hE.out])
          have hD := digits_at s 1 w hs
          have hrl := runL_le (s.data.toList.drop 1)
          rw [List.length_drop, len_data] at hrl
          obtain ⟨r, hR⟩ : ∃ r, runL (s.data.toList.drop 1) = r := ⟨_, rfl⟩
          rw [hR] at hD hrl
          have HD := Lib.hid hD
          have HR := Lib.hid hR
          clear hsg HE hE hD hR
          rcases Nat.eq_zero_or_pos r with hz | hz
          · have e0 : ((r : Int) == 0) = true := by simp; omega
            have hz' := Lib.hid hz
            clear hz
            go_enter Tryz.func102, Tryz.ntmps102
            go_wp2_with fail
            refine HD.out.mono ?_
            rintro e w1 ⟨rfl, rfl⟩
            go_wp2_with fail
            go_ret
            exact ⟨ret_i (by rw [hr.out, HR.out, if_pos hz'.out]; rfl), rfl⟩
          · have e0 : ((r : Int) == 0) = false := by simp; omega
            have hz' := Lib.hid hz
            clear hz
            go_enter Tryz.func102, Tryz.ntmps102
            go_wp2_with fail
            refine HD.out.mono ?_
            rintro e w1 ⟨rfl, rfl⟩
            go_wp2_with fail
            go_ret
            exact ⟨ret_i (by have := hz'.out; rw [hr.out, HR.out, if_neg (by omega)]; omega), rfl⟩
        · obtain ⟨m1, m2⟩ := beqT hm 45 rfl
          have hsg : signL (s.data.toList.drop 1) = 1 := by rw [hcons]; simp [signL, hp, hm]
          clear hcons hp hm
          have hr : Hid (expoL s.data.toList = if runL (s.data.toList.drop 2) = 0 then 0 else 2 + runL (s.data.toList.drop 2)) := Lib.hid (by rw [HE.out, hsg, if_pos hE.out])
          have hD := digits_at s 2 w hs
          have hrl := runL_le (s.data.toList.drop 2)
          rw [List.length_drop, len_data] at hrl
          obtain ⟨r, hR⟩ : ∃ r, runL (s.data.toList.drop 2) = r := ⟨_, rfl⟩
          rw [hR] at hD hrl
          have HD := Lib.hid hD
          have HR := Lib.hid hR
          clear hsg HE hE hD hR
          rcases Nat.eq_zero_or_pos r with hz | hz
          · have e0 : ((r : Int) == 0) = true := by simp; omega
            have hz' := Lib.hid hz
            clear hz
            go_enter Tryz.func102, Tryz.ntmps102
            go_wp2_with fail
            refine HD.out.mono ?_
            rintro e w1 ⟨rfl, rfl⟩
            go_wp2_with fail
            go_ret
            exact ⟨ret_i (by rw [hr.out, HR.out, if_pos hz'.out]; rfl), rfl⟩
          · have e0 : ((r : Int) == 0) = false := by simp; omega
            have hz' := Lib.hid hz
            clear hz
            go_enter Tryz.func102, Tryz.ntmps102
            go_wp2_with fail
            refine HD.out.mono ?_
            rintro e w1 ⟨rfl, rfl⟩
            go_wp2_with fail
            go_ret
            exact ⟨ret_i (by have := hz'.out; rw [hr.out, HR.out, if_neg (by omega)]; omega), rfl⟩
      · obtain ⟨p1, p2⟩ := beqT hp 43 rfl
        have hsg : signL (s.data.toList.drop 1) = 1 := by rw [hcons]; simp [signL, hp]
        clear hcons hp
        have hr : Hid (expoL s.data.toList = if runL (s.data.toList.drop 2) = 0 then 0 else 2 + runL (s.data.toList.drop 2)) := Lib.hid (by rw [HE.out, hsg, if_pos hE.out])
        have hD := digits_at s 2 w hs
        have hrl := runL_le (s.data.toList.drop 2)
        rw [List.length_drop, len_data] at hrl
        obtain ⟨r, hR⟩ : ∃ r, runL (s.data.toList.drop 2) = r := ⟨_, rfl⟩
        rw [hR] at hD hrl
        have HD := Lib.hid hD
        have HR := Lib.hid hR
        clear hsg HE hE hD hR
        rcases Nat.eq_zero_or_pos r with hz | hz
        · have e0 : ((r : Int) == 0) = true := by simp; omega
          have hz' := Lib.hid hz
          clear hz
          go_enter Tryz.func102, Tryz.ntmps102
          go_wp2_with fail
          refine HD.out.mono ?_
          rintro e w1 ⟨rfl, rfl⟩
          go_wp2_with fail
          go_ret
          exact ⟨ret_i (by rw [hr.out, HR.out, if_pos hz'.out]; rfl), rfl⟩
        · have e0 : ((r : Int) == 0) = false := by simp; omega
          have hz' := Lib.hid hz
          clear hz
          go_enter Tryz.func102, Tryz.ntmps102
          go_wp2_with fail
          refine HD.out.mono ?_
          rintro e w1 ⟨rfl, rfl⟩
          go_wp2_with fail
          go_ret
          exact ⟨ret_i (by have := hz'.out; rw [hr.out, HR.out, if_neg (by omega)]; omega), rfl⟩
    · have h1' : ¬ ((1 : Int) < (s.size : Int)) := by omega
      have hsg : signL (s.data.toList.drop 1) = 0 := by rw [drop_all s 1 (by omega)]; rfl
      have hr : Hid (expoL s.data.toList = if runL (s.data.toList.drop 1) = 0 then 0 else 1 + runL (s.data.toList.drop 1)) := Lib.hid (by rw [HE.out, hsg, if_pos hE.out])
      have hD := digits_at s 1 w hs
      have hrl := runL_le (s.data.toList.drop 1)
      rw [List.length_drop, len_data] at hrl
      obtain ⟨r, hR⟩ : ∃ r, runL (s.data.toList.drop 1) = r := ⟨_, rfl⟩
      rw [hR] at hD hrl
      have HD := Lib.hid hD
      have HR := Lib.hid hR
      clear hsg HE hE hD hR
      rcases Nat.eq_zero_or_pos r with hz | hz
      · have e0 : ((r : Int) == 0) = true := by simp; omega
        have hz' := Lib.hid hz
        clear hz
        go_enter Tryz.func102, Tryz.ntmps102
        go_wp2_with fail
        refine HD.out.mono ?_
        rintro e w1 ⟨rfl, rfl⟩
        go_wp2_with fail
        go_ret
        exact ⟨ret_i (by rw [hr.out, HR.out, if_pos hz'.out]; rfl), rfl⟩
      · have e0 : ((r : Int) == 0) = false := by simp; omega
        have hz' := Lib.hid hz
        clear hz
        go_enter Tryz.func102, Tryz.ntmps102
        go_wp2_with fail
        refine HD.out.mono ?_
        rintro e w1 ⟨rfl, rfl⟩
        go_wp2_with fail
        go_ret
        exact ⟨ret_i (by have := hz'.out; rw [hr.out, HR.out, if_neg (by omega)]; omega), rfl⟩
end Go.Proofs.YtcfdfgbobnocnaaGreatDoor
