/- The document's own parts: run, index, numeral, Number. -/
import Derived.Test.YtfinboplkjijhaaGreatDoorTPrint
import Derived.Test.YtfinboplkjijhaaGreatDoorRAll
import Derived.Deep.CutRange
import Derived.Deep.DeepCutAuto
import Derived.Shelf.RegionOpenPlain
import Derived.Deep.RegionHeld3
namespace Go.Proofs.YtfinboplkjijhaaGreatDoor
open Go.RowKit

set_option maxRecDepth 100000 in
set_option maxHeartbeats 1000000 in
theorem rrun_any (s : ByteArray) (i : Nat) (w : World) (hs : s.size ≤ 9000) (hi : i ≤ s.size) : Calls Tryz.prog 57 #[.string s, .int .i64 (i : Int)] w fun e w' => e = .returned (.int .i64 (runL (s.data.toList.drop i))) ∧ w = w' := by
  go_enter Tryz.func57, Tryz.ntmps57
  go_wp2
  go_loopg [5] (s.size - i) (fun g n wx => ∃ k : Nat, i + k + g = s.size ∧ n = .int .i64 k ∧ Aside (runL (s.data.toList.drop i) = k + runL (s.data.toList.drop (i + k))) ∧ w = wx)
  case atStart => exact ⟨0, by omega, rfl, Aside.intro (by simp), rfl⟩
  case round =>
    obtain ⟨k, hk, rfl, HR, rfl⟩ := hrel
    obtain ⟨E, hE⟩ : ∃ E : Nat, i + k = E := ⟨_, rfl⟩
    have hik : (i : Int) + (k : Int) = (E : Int) := by omega
    rw [hE] at HR
    by_cases hlt : E < s.size
    · have hlt' : (E : Int) < (s.size : Int) := by omega
      have hE0 : (0 : Int) ≤ (E : Int) := by omega
      have hd := drop_at s E hlt
      cases c : digB (s[E].toNat : Int)
      · have hr : Hid (runL (s.data.toList.drop i) = k) := Lib.hid (by
          rw [HR.out, runL_no (by rw [hd]; exact c)]; rfl)
        have HD := Lib.hid (rdigit_any (s[E].toNat : Int) w)
        rw [c] at HD
        clear HR hd c hE
        go_wp2_with fail
        refine HD.out.mono ?_
        rintro e w1 ⟨rfl, rfl⟩
        go_wp2_with fail
        go_ret
        exact ⟨by rw [hr.out]; rfl, rfl⟩
      · have hr : Hid (runL (s.data.toList.drop i) = (k + 1 : Nat) + runL (s.data.toList.drop (i + (k + 1)))) := Lib.hid (by
          rw [HR.out, hd, runL_yes c, show i + (k + 1) = E + 1 by omega]; omega)
        have HD := Lib.hid (rdigit_any (s[E].toNat : Int) w)
        rw [c] at HD
        clear HR hd c
        go_wp2_with fail
        refine HD.out.mono ?_
        rintro e w1 ⟨rfl, rfl⟩
        go_wp2_with fail
        go_roundg (gk - 1)
        case measure => omega
        case rel => exact ⟨k + 1, by omega, by go_num, Aside.intro hr.out, rfl⟩
    · have hlt' : ¬ (E : Int) < (s.size : Int) := by omega
      have hr : Hid (runL (s.data.toList.drop i) = k) := Lib.hid (by
        rw [HR.out, drop_all s E (by omega)]; rfl)
      clear HR hE
      go_wp2
      go_ret
      exact ⟨by rw [hr.out]; rfl, rfl⟩

theorem not_more {xs : List UInt8} {k : Nat} {b y : UInt8} (h : (xs.take k).contains b = false) (hk : xs[k]? = some y) (hy : (y == b) = false) : (xs.take (k + 1)).contains b = false := by
  rw [List.take_add_one, hk]
  cases hc : (xs.take k ++ (some y).toList).contains b
  · rfl
  · rw [List.contains_iff_mem] at hc
    rcases List.mem_append.1 hc with h1 | h1
    · rw [List.contains_iff_mem.2 h1] at h; cases h
    · simp at h1
      subst h1
      simp at hy
set_option maxRecDepth 100000 in
set_option maxHeartbeats 1000000 in
theorem rindex_marks (b : UInt8) (w : World) : Calls Tryz.prog 35 #[.string ⟨#[33, 36, 38, 40, 41, 58, 61, 64, 91, 93, 123, 124, 125]⟩, .int .u8 (b.toNat : Int)] w fun e w' => ∃ r : Int, e = .returned (.int .i64 r) ∧ decide (r ≥ 0) = isMark b ∧ w = w' := by
  obtain ⟨M, hM⟩ : ∃ M : ByteArray, (⟨#[33, 36, 38, 40, 41, 58, 61, 64, 91, 93, 123, 124, 125]⟩ : ByteArray) = M := ⟨_, rfl⟩
  have hMs : M.size = 13 := by rw [← hM]; rfl
  have HMl : Hid (M.data.toList = [33, 36, 38, 40, 41, 58, 61, 64, 91, 93, 123, 124, 125]) := Lib.hid (by rw [← hM])
  rw [hM]
  clear hM
  go_enter Tryz.func35, Tryz.ntmps35
  go_wp2
  go_loopg [5] 13 (fun g n wx => ∃ k : Nat, k + g = 13 ∧ n = .int .i64 k ∧ Aside ((M.data.toList.take k).contains b = false) ∧ w = wx)
  case atStart => exact ⟨0, by omega, rfl, Aside.intro rfl, rfl⟩
  case round =>
    obtain ⟨k, hk, rfl, HR, rfl⟩ := hrel
    by_cases hlt : k < M.size
    · have hlt' : (k : Int) < (M.size : Int) := by omega
      have hk0 : (0 : Int) ≤ (k : Int) := by omega
      have hg : Hid (M.data.toList[k]? = some M[k]) := Lib.hid (by
        rw [List.getElem?_eq_getElem (by rw [len_data]; exact hlt), Array.getElem_toList]
        rfl)
      cases c : (M[k] == b)
      · obtain ⟨a1, _⟩ := beqF c (b.toNat : Int) rfl
        have hr : Hid ((M.data.toList.take (k + 1)).contains b = false) := Lib.hid (by
          exact not_more HR.out hg.out c)
        clear HR c hg
        go_wp2
        go_roundg (gk - 1)
        case measure => omega
        case rel => exact ⟨k + 1, by omega, by go_num, Aside.intro hr.out, rfl⟩
      · obtain ⟨a1, _⟩ := beqT c (b.toNat : Int) rfl
        have hr : Hid (decide ((k : Int) ≥ 0) = isMark b) := Lib.hid (by
          have : isMark b = true := by
            unfold isMark
            rw [← HMl.out]
            have hb : M[k] = b := by simpa using c
            rw [← hb]
            exact List.contains_iff_mem.2 (List.mem_of_getElem? hg.out)
          rw [this]
          simp)
        clear HR c hg
        go_wp2
        go_ret
        exact ⟨_, rfl, hr.out, rfl⟩
    · have hlt' : ¬ (k : Int) < (M.size : Int) := by omega
      have hr : Hid (decide ((-1 : Int) ≥ 0) = isMark b) := Lib.hid (by
        have h := HR.out
        rw [List.take_of_length_le (by rw [len_data]; omega), HMl.out] at h
        unfold isMark
        rw [h]
        rfl)
      clear HR
      go_wp2
      go_ret
      exact ⟨_, rfl, hr.out, rfl⟩

theorem minus_cases (s : ByteArray) : (s.size = 0 ∧ minusL s.data.toList = 0) ∨ ∃ h : 0 < s.size, minusL s.data.toList = if s[0] == 45 then 1 else 0 := by
  rcases Nat.eq_zero_or_pos s.size with h | h
  · exact .inl ⟨h, by rw [nil_of_size h]; rfl⟩
  · exact .inr ⟨h, by rw [cons_at s h]; rfl⟩
theorem whole_at (s : ByteArray) (m : Nat) (h : m < s.size) : wholeL (s.data.toList.drop m) = if s[m] == 48 then 1 else runL (s.data.toList.drop m) := by
  rw [drop_at s m h]; rfl
theorem frac_cases (s : ByteArray) (K : Nat) : (s.size ≤ K ∧ fracL (s.data.toList.drop K) = 0) ∨ ∃ h : K < s.size, fracL (s.data.toList.drop K) = if s[K] == 46 then (if runL (s.data.toList.drop (K + 1)) = 0 then 0 else 1 + runL (s.data.toList.drop (K + 1))) else 0 := by
  rcases Nat.lt_or_ge K s.size with h | h
  · exact .inr ⟨h, by rw [drop_at s K h]; rfl⟩
  · exact .inl ⟨h, by rw [drop_all s K h]; rfl⟩
theorem expo_cases (s : ByteArray) (K : Nat) : (s.size ≤ K ∧ expoL (s.data.toList.drop K) = 0) ∨ ∃ h : K < s.size, expoL (s.data.toList.drop K) = if s[K] == 101 || s[K] == 69 then (if runL (s.data.toList.drop (K + 1 + signL (s.data.toList.drop (K + 1)))) = 0 then 0 else 1 + signL (s.data.toList.drop (K + 1)) + runL (s.data.toList.drop (K + 1 + signL (s.data.toList.drop (K + 1))))) else 0 := by
  rcases Nat.lt_or_ge K s.size with h | h
  · exact .inr ⟨h, by rw [drop_at s K h]; simp only [expoL, List.drop_drop]⟩
  · exact .inl ⟨h, by rw [drop_all s K h]; rfl⟩
theorem sign_cases (s : ByteArray) (K : Nat) : (s.size ≤ K ∧ signL (s.data.toList.drop K) = 0) ∨ ∃ h : K < s.size, signL (s.data.toList.drop K) = if s[K] == 43 || s[K] == 45 then 1 else 0 := by
  rcases Nat.lt_or_ge K s.size with h | h
  · exact .inr ⟨h, by rw [drop_at s K h]; rfl⟩
  · exact .inl ⟨h, by rw [drop_all s K h]; rfl⟩
theorem run_drop_le (s : ByteArray) (m : Nat) (h : m ≤ s.size) : m + runL (s.data.toList.drop m) ≤ s.size := by
  have := runL_le (s.data.toList.drop m)
  rw [List.length_drop, len_data] at this
  omega
theorem ret_nk {a b : Nat} {k j : Int} (h : a = b) (h2 : k = j) : Ending.returned (.tuple #[.int .i64 (a : Int), .int .i64 k]) = .returned (.tuple #[.int .i64 (b : Int), .int .i64 j]) := by rw [h, h2]

set_option maxRecDepth 100000 in
set_option maxHeartbeats 4000000 in
theorem rnumeral_any (s : ByteArray) (w : World) (hs : s.size ≤ 9000) : Calls Tryz.prog 27 #[.string s] w fun e w' => e = .returned (.tuple #[.int .i64 ((numeralL s.data.toList).1 : Int), .int .i64 (numeralL s.data.toList).2]) ∧ w = w' := by
  obtain ⟨m, hm⟩ : ∃ m, minusL s.data.toList = m := ⟨_, rfl⟩
  have hmc := minus_cases s
  rw [hm] at hmc
  have hms : m ≤ s.size := by
    rcases hmc with ⟨_, h⟩ | ⟨h, h'⟩
    · omega
    · split at h' <;> omega
  obtain ⟨R, hR⟩ : ∃ R, runL (s.data.toList.drop m) = R := ⟨_, rfl⟩
  have H1 := Lib.hid (rrun_any s m w hs hms)
  have hRs := run_drop_le s m hms
  rw [hR] at H1 hRs
  have HMC := Lib.hid hmc
  have HM := Lib.hid hm
  have HR := Lib.hid hR
  clear hmc hm hR
  go_enter Tryz.func27, Tryz.ntmps27
  obtain ⟨b1, hb1⟩ : ∃ b1 : Bool, (m = 1) = (b1 = true) := ⟨decide (m = 1), by simp⟩
  have hm1 : m ≤ 1 := by
    rcases HMC.out with ⟨_, h⟩ | ⟨h, h'⟩
    · omega
    · split at h' <;> omega
  go_upto_region 2 with (fail)
  go_cut [17] (fun t wx => t = .bool b1 ∧ w = wx)
  case first =>
    rcases HMC.out with ⟨h0, hm0⟩ | ⟨h0, hm0⟩
    · have hlt : ¬ (0 : Int) < (s.size : Int) := by omega
      obtain rfl : b1 = false := by cases b1 <;> simp at hb1 ⊢; omega
      go_wp2
      go_meet
      exact ⟨rfl, rfl⟩
    · have hlt : (0 : Int) < (s.size : Int) := by omega
      cases c : (s[0] == 45)
      · obtain ⟨a1, _⟩ := beqF c 45 rfl
        rw [c] at hm0
        obtain rfl : b1 = false := by cases b1 <;> simp at hb1 hm0 ⊢; omega
        clear c hm0 hb1
        go_wp2
        go_meet
        exact ⟨rfl, rfl⟩
      · obtain ⟨a1, _⟩ := beqT c 45 rfl
        rw [c] at hm0
        obtain rfl : b1 = true := by cases b1 <;> simp at hb1 hm0 ⊢; omega
        clear c hm0 hb1
        go_wp2
        go_meet
        exact ⟨rfl, rfl⟩
  case rest =>
    obtain ⟨rfl, rfl⟩ := hcut
    go_upto_if 17 with (fail)
    go_cut [4] (fun i wx => i = .int .i64 m ∧ w = wx)
    case first =>
      cases b1
      · obtain rfl : m = 0 := by simp at hb1; omega
        go_wp2
        go_meet
        exact ⟨rfl, rfl⟩
      · obtain rfl : m = 1 := by simpa using hb1
        go_wp2
        go_meet
        exact ⟨rfl, rfl⟩
    case rest =>
      obtain ⟨rfl, rfl⟩ := hcut
      by_cases hR0 : R = 0
      · have hr : Hid (numeralL s.data.toList = (0, 0)) := Lib.hid (by
          unfold numeralL
          rw [HM.out, if_pos ((whole_run _).2 (by rw [HR.out]; exact hR0))])
        have e0 : ((R : Int) == 0) = true := by simp; omega
        go_wp2_with fail
        refine H1.out.mono ?_
        rintro e w1 ⟨rfl, rfl⟩
        go_wp2_with fail
        go_ret2
        exact ⟨by rw [hr.out]; rfl, rfl⟩
      · have e0 : ((R : Int) == 0) = false := by simp; omega
        have hmlt : m < s.size := by omega
        obtain ⟨W, hW⟩ : ∃ W, wholeL (s.data.toList.drop m) = W := ⟨_, rfl⟩
        have hWc := whole_at s m hmlt
        rw [hW, HR.out] at hWc
        have hW0 : W ≠ 0 := by split at hWc <;> omega
        have hWR : W ≤ R := by split at hWc <;> omega
        obtain ⟨K, hK⟩ : ∃ K, m + W = K := ⟨_, rfl⟩
        have HW := Lib.hid hW
        have HWC := Lib.hid hWc
        clear hW hWc
        have hmlt' : (m : Int) < (s.size : Int) := by omega
        have hm0 : (0 : Int) ≤ (m : Int) := by omega
        go_wp2_with fail
        refine H1.out.mono ?_
        rintro e w1 ⟨rfl, rfl⟩
        go_upto_if 28 with (fail)
        go_cut [5] (fun n wx => n = .int .i64 W ∧ w = wx)
        case first =>
          cases c : (s[m] == 48)
          · obtain ⟨a1, _⟩ := beqF c 48 rfl
            have hc := HWC.out
            rw [c] at hc
            obtain rfl : W = R := by simpa using hc
            clear c hc
            go_wp2
            go_meet
            exact ⟨rfl, rfl⟩
          · obtain ⟨a1, _⟩ := beqT c 48 rfl
            have hc := HWC.out
            rw [c] at hc
            obtain rfl : W = 1 := by simpa using hc
            clear c hc
            go_wp2
            go_meet
            exact ⟨rfl, rfl⟩
        case rest =>
          obtain ⟨rfl, rfl⟩ := hcut
          have hKI : (m : Int) + (W : Int) = (K : Int) := by omega
          have hKs : K ≤ s.size := by omega
          have hK0 : (0 : Int) ≤ (K : Int) := by omega
          obtain ⟨f, hf⟩ : ∃ f, fracL (s.data.toList.drop K) = f := ⟨_, rfl⟩
          have HFC := Lib.hid (frac_cases s K)
          rw [hf] at HFC
          have HF := Lib.hid hf
          obtain ⟨P1, hP1⟩ : ∃ P1, K + 1 = P1 := ⟨_, rfl⟩
          have hP1I : (K : Int) + 1 = (P1 : Int) := by omega
          rw [hP1] at HFC
          obtain ⟨R2, hR2⟩ : ∃ R2, runL (s.data.toList.drop P1) = R2 := ⟨_, rfl⟩
          rw [hR2] at HFC
          have HRun2 := Lib.hid (fun h => rrun_any s P1 w hs h)
          rw [hR2] at HRun2
          have hR2s := fun h => run_drop_le s P1 h
          rw [hR2] at hR2s
          obtain ⟨b2, hb2⟩ : ∃ b2 : Bool, (f ≠ 0) = (b2 = true) := ⟨decide (f ≠ 0), by simp⟩
          have hf2 : Hid (f ≠ 0 → P1 + R2 ≤ s.size ∧ f = 1 + R2) := Lib.hid (fun h => by
            rcases HFC.out with ⟨_, h'⟩ | ⟨hlt, h'⟩
            · omega
            · have := hR2s (by omega)
              split at h'
              · split at h' <;> omega
              · omega)
          clear hf hR2 hR2s
          go_upto_region 10 with (fail)
          go_cut [48] (fun t wx => t = .bool b2 ∧ w = wx)
          case first =>
            rcases HFC.out with ⟨hge, h'⟩ | ⟨hlt, h'⟩
            · have hlt' : ¬ (K : Int) < (s.size : Int) := by omega
              obtain rfl : b2 = false := by cases b2 <;> simp at hb2 ⊢; omega
              go_wp2
              go_meet
              exact ⟨rfl, rfl⟩
            · have hlt' : (K : Int) < (s.size : Int) := by omega
              cases c : (s[K] == 46)
              · obtain ⟨a1, _⟩ := beqF c 46 rfl
                rw [c] at h'
                obtain rfl : b2 = false := by cases b2 <;> simp at hb2 h' ⊢; omega
                clear c h' hb2
                go_wp2
                go_meet
                exact ⟨rfl, rfl⟩
              · obtain ⟨a1, _⟩ := beqT c 46 rfl
                rw [c] at h'
                have HC := Lib.hid (HRun2.out (by omega))
                by_cases hz : R2 = 0
                · have hz' : ¬ (R2 : Int) > 0 := by omega
                  obtain rfl : b2 = false := by cases b2 <;> simp [hz] at hb2 h' ⊢; omega
                  clear c h' hb2
                  go_wp2_with fail
                  refine HC.out.mono ?_
                  rintro e w1 ⟨rfl, rfl⟩
                  go_wp2
                  go_meet
                  exact ⟨rfl, rfl⟩
                · have hz' : (R2 : Int) > 0 := by omega
                  obtain rfl : b2 = true := by cases b2 <;> simp [hz] at hb2 h' ⊢; omega
                  clear c h' hb2
                  go_wp2_with fail
                  refine HC.out.mono ?_
                  rintro e w1 ⟨rfl, rfl⟩
                  go_wp2
                  go_meet
                  exact ⟨congrArg Value.bool (decide_eq_true (by omega)), rfl⟩
          case rest =>
            obtain ⟨rfl, rfl⟩ := hcut
            obtain ⟨K2, hK2⟩ : ∃ K2, K + f = K2 := ⟨_, rfl⟩
            obtain ⟨kd, hkd⟩ : ∃ kd : Int, (if f = 0 then (3 : Int) else 4) = kd := ⟨_, rfl⟩
            go_upto_if 48 with (fail)
            go_cut [4, 6] (fun i k wx => i = .int .i64 K2 ∧ k = .int .i64 kd ∧ w = wx)
            case first =>
              cases b2
              · have h0 : f = 0 := by simpa using hb2
                obtain rfl : K = K2 := by omega
                obtain rfl : 3 = kd := by rw [← hkd, if_pos h0]
                go_wp2
                go_meet
                exact ⟨rfl, rfl, rfl⟩
              · have h0 : f ≠ 0 := by simpa using hb2
                obtain ⟨g1, g2⟩ := hf2.out h0
                obtain rfl : 4 = kd := by rw [← hkd, if_neg h0]
                have HC := Lib.hid (HRun2.out (by omega))
                have hsum : (P1 : Int) + (R2 : Int) = (K2 : Int) := by omega
                go_wp2_with fail
                refine HC.out.mono ?_
                rintro e w1 ⟨rfl, rfl⟩
                go_wp2
                go_meet
                exact ⟨rfl, rfl, rfl⟩
            case rest =>
              obtain ⟨rfl, rfl, rfl⟩ := hcut
              have hK2s : K2 ≤ s.size := by
                by_cases h0 : f = 0
                · omega
                · have := hf2.out h0; omega
              have hK20 : (0 : Int) ≤ (K2 : Int) := by omega
              obtain ⟨x, hx⟩ : ∃ x, expoL (s.data.toList.drop K2) = x := ⟨_, rfl⟩
              have hXC := expo_cases s K2
              rw [hx] at hXC
              obtain ⟨Q, hQ⟩ : ∃ Q, K2 + 1 = Q := ⟨_, rfl⟩
              have hQI : (K2 : Int) + 1 = (Q : Int) := by omega
              rw [hQ] at hXC
              obtain ⟨sg, hsg⟩ : ∃ sg, signL (s.data.toList.drop Q) = sg := ⟨_, rfl⟩
              have hSC := sign_cases s Q
              rw [hsg] at hXC hSC
              obtain ⟨T, hT⟩ : ∃ T, Q + sg = T := ⟨_, rfl⟩
              rw [hT] at hXC
              obtain ⟨R3, hR3⟩ : ∃ R3, runL (s.data.toList.drop T) = R3 := ⟨_, rfl⟩
              have HRun3 := Lib.hid (fun h => rrun_any s T w hs h)
              have hR3s := fun h => run_drop_le s T h
              rw [hR3] at hXC HRun3 hR3s
              have HXC := Lib.hid hXC
              have HSC := Lib.hid hSC
              have hr : Hid (numeralL s.data.toList = (K2 + x, if f = 0 ∧ x = 0 then 3 else 4)) := Lib.hid (number_mid HM.out HW.out hW0 hK HF.out hK2 hx rfl)
              have HKD := Lib.hid hkd
              obtain ⟨b3, hb3⟩ : ∃ b3 : Bool, b3 = (match s.data.toList.drop K2 with | [] => false | b :: _ => b == 101 || b == 69) := ⟨_, rfl⟩
              have H3T : Hid (b3 = true → ∃ h : K2 < s.size, (s[K2] == 101 || s[K2] == 69) = true) := Lib.hid (fun h => by
                rcases Nat.lt_or_ge K2 s.size with hl | hl
                · rw [drop_at s K2 hl] at hb3; exact ⟨hl, by rw [← h, hb3]⟩
                · rw [drop_all s K2 hl] at hb3; rw [hb3] at h; cases h)
              have H3F : Hid (b3 = false → x = 0) := Lib.hid (fun h => by
                rcases hXC with ⟨_, h'⟩ | ⟨hl, h'⟩
                · exact h'
                · rw [drop_at s K2 hl] at hb3
                  rw [h'] 
                  have hb : (s[K2] == 101 || s[K2] == 69) = false := by rw [← h, hb3]
                  rw [hb]; rfl)
              have H3C : Hid ((s.size ≤ K2 ∧ b3 = false) ∨ ∃ h : K2 < s.size, b3 = (s[K2] == 101 || s[K2] == 69)) := Lib.hid (by
                rcases Nat.lt_or_ge K2 s.size with hl | hl
                · exact .inr ⟨hl, by rw [hb3, drop_at s K2 hl]⟩
                · exact .inl ⟨hl, by rw [hb3, drop_all s K2 hl]⟩)
              clear hx hXC hsg hSC hR3 hkd hb3
              go_upto_region 12 with (fail)
              go_cut [71] (fun t wx => t = .bool b3 ∧ w = wx)
              case first =>
                rcases H3C.out with ⟨hge, h'⟩ | ⟨hlt, h'⟩
                · have hlt' : ¬ (K2 : Int) < (s.size : Int) := by omega
                  subst h'
                  go_wp2
                  go_meet
                  exact ⟨rfl, rfl⟩
                · have hlt' : (K2 : Int) < (s.size : Int) := by omega
                  cases c : (s[K2] == 101)
                  · obtain ⟨a1, _⟩ := beqF c 101 rfl
                    cases c2 : (s[K2] == 69)
                    · obtain ⟨a2, _⟩ := beqF c2 69 rfl
                      rw [c, c2] at h'
                      subst h'
                      clear c c2
                      go_wp2
                      go_meet
                      exact ⟨rfl, rfl⟩
                    · obtain ⟨a2, _⟩ := beqT c2 69 rfl
                      rw [c, c2] at h'
                      subst h'
                      clear c c2
                      go_wp2
                      go_meet
                      exact ⟨rfl, rfl⟩
                  · obtain ⟨a1, _⟩ := beqT c 101 rfl
                    rw [c, Bool.true_or] at h'
                    subst h'
                    clear c
                    go_wp2
                    go_meet
                    exact ⟨rfl, rfl⟩
              case rest =>
                obtain ⟨rfl, rfl⟩ := hcut
                cases b3
                · have hx0 := H3F.out rfl
                  go_wp2
                  go_ret2
                  refine ⟨?_, rfl⟩
                  rw [hr.out]
                  exact ret_nk (by omega) (by rw [← HKD.out]; simp [hx0])
                · obtain ⟨hlt, hbe⟩ := H3T.out rfl
                  have HX : Hid (x = if R3 = 0 then 0 else 1 + sg + R3) := Lib.hid (by
                    rcases HXC.out with ⟨_, h'⟩ | ⟨_, h'⟩
                    · omega
                    · rw [h', hbe]; rfl)
                  have hsg1 : sg ≤ 1 ∧ T ≤ s.size := by
                    rcases HSC.out with ⟨_, h'⟩ | ⟨_, h'⟩
                    · omega
                    · split at h' <;> omega
                  have hQ0 : (0 : Int) ≤ (Q : Int) := by omega
                  obtain ⟨b4, hb4⟩ : ∃ b4 : Bool, (sg = 1) = (b4 = true) := ⟨decide (sg = 1), by simp⟩
                  clear hbe
                  go_upto_region 14 with (fail)
                  go_cut [89] (fun t wx => t = .bool b4 ∧ w = wx)
                  case first =>
                    rcases HSC.out with ⟨hge, h'⟩ | ⟨hlt2, h'⟩
                    · have hlt' : ¬ (Q : Int) < (s.size : Int) := by omega
                      obtain rfl : b4 = false := by cases b4 <;> simp at hb4 ⊢; omega
                      go_wp2
                      go_meet
                      exact ⟨rfl, rfl⟩
                    · have hlt' : (Q : Int) < (s.size : Int) := by omega
                      cases c : (s[Q] == 43)
                      · obtain ⟨a1, _⟩ := beqF c 43 rfl
                        cases c2 : (s[Q] == 45)
                        · obtain ⟨a2, _⟩ := beqF c2 45 rfl
                          rw [c, c2] at h'
                          obtain rfl : b4 = false := by cases b4 <;> simp at hb4 h' ⊢; omega
                          clear c c2 h' hb4
                          go_wp2
                          go_meet
                          exact ⟨rfl, rfl⟩
                        · obtain ⟨a2, _⟩ := beqT c2 45 rfl
                          rw [c, c2] at h'
                          obtain rfl : b4 = true := by cases b4 <;> simp at hb4 h' ⊢; omega
                          clear c c2 h' hb4
                          go_wp2
                          go_meet
                          exact ⟨rfl, rfl⟩
                      · obtain ⟨a1, _⟩ := beqT c 43 rfl
                        rw [c, Bool.true_or] at h'
                        obtain rfl : b4 = true := by cases b4 <;> simp at hb4 h' ⊢; omega
                        clear c h' hb4
                        go_wp2
                        go_meet
                        exact ⟨rfl, rfl⟩
                  case rest =>
                    obtain ⟨rfl, rfl⟩ := hcut
                    go_upto_if 89 with (fail)
                    go_cut [7] (fun k wx => k = .int .i64 T ∧ w = wx)
                    case first =>
                      cases b4
                      · obtain rfl : Q = T := by simp at hb4; omega
                        go_wp2
                        go_meet
                        exact ⟨rfl, rfl⟩
                      · have hTI : (Q : Int) + 1 = (T : Int) := by simp at hb4; omega
                        go_wp2
                        go_meet
                        exact ⟨rfl, rfl⟩
                    case rest =>
                      obtain ⟨rfl, rfl⟩ := hcut
                      have HC := Lib.hid (HRun3.out hsg1.2)
                      have hR3b := hR3s hsg1.2
                      by_cases hz : R3 = 0
                      · have hz' : ¬ (R3 : Int) > 0 := by omega
                        have hx0 : x = 0 := by have h := HX.out; rw [if_pos hz] at h; exact h
                        go_wp2_with fail
                        refine HC.out.mono ?_
                        rintro e w1 ⟨rfl, rfl⟩
                        go_wp2_with fail
                        go_ret2
                        refine ⟨?_, rfl⟩
                        rw [hr.out]
                        exact ret_nk (by omega) (by rw [← HKD.out]; simp [hx0])
                      · have hz' : (R3 : Int) > 0 := by omega
                        have hx1 : x = 1 + sg + R3 := by have h := HX.out; rw [if_neg hz] at h; exact h
                        obtain ⟨N, hN⟩ : ∃ N, T + R3 = N := ⟨_, rfl⟩
                        have hNI : (T : Int) + (R3 : Int) = (N : Int) := by omega
                        go_wp2_with fail
                        refine HC.out.mono ?_
                        rintro e w1 ⟨rfl, rfl⟩
                        go_wp2_with fail
                        refine HC.out.mono ?_
                        rintro e w1 ⟨rfl, rfl⟩
                        go_wp2_with fail
                        go_ret2
                        refine ⟨?_, rfl⟩
                        rw [hr.out]
                        exact ret_nk (by omega) (by rw [if_neg (by omega)])
end Go.Proofs.YtfinboplkjijhaaGreatDoor
/- The document's own RightToken. -/
namespace Go.Proofs.YtfinboplkjijhaaGreatDoor
open Go.RowKit

theorem numeral_zero {l : List UInt8} (h : (numeralL l).1 = 0) : (numeralL l).2 = 0 := by
  unfold numeralL at *
  split
  · rfl
  · rename_i h0
    rw [if_neg h0] at h
    simp only at h
    omega
theorem kind_all {l : List UInt8} (h : (numeralL l).1 = l.length) : kindL l = (numeralL l).2 := by
  have hb : behindB (l.drop (numeralL l).1) = false := by rw [h, List.drop_length]; rfl
  have hn : numberL l = numeralL l := by
    unfold numberL
    by_cases h0 : (numeralL l).1 = 0
    · rw [if_pos h0]
      exact Prod.ext h0.symm (numeral_zero h0).symm
    · rw [if_neg h0, hb]; rfl
  unfold kindL
  rw [hn, if_neg (by omega)]
theorem kind_part {l : List UInt8} (h : (numeralL l).1 ≠ l.length) : kindL l = 0 := by
  have hle := numeralL_le l
  have : (numberL l).1 < l.length := by
    unfold numberL
    by_cases h0 : (numeralL l).1 = 0
    · rw [if_pos h0]; show 0 < _; omega
    · rw [if_neg h0]
      split
      · show 0 < _; omega
      · omega
  unfold kindL
  rw [if_pos this]
set_option maxRecDepth 100000 in
theorem rnumber_any (s : ByteArray) (w : World) (hs : s.size ≤ 9000) : Calls Tryz.prog 10 #[.string s] w fun e w' => e = .returned (.int .i64 (kindL s.data.toList)) ∧ w = w' := by
  have HN := Lib.hid (rnumeral_any s w hs)
  have hka := fun h => kind_all (l := s.data.toList) h
  have hkp := fun h => kind_part (l := s.data.toList) h
  have hle := numeralL_le s.data.toList
  rw [len_data] at hka hkp hle
  generalize numeralL s.data.toList = p at *
  obtain ⟨n, k⟩ := p
  simp only at hka hkp hle
  by_cases h : n = s.size
  · have hr := Lib.hid (hka h)
    have e0 : ((n : Int) != (s.size : Int)) = false := by simp; omega
    clear hka hkp
    go_enter Tryz.func10, Tryz.ntmps10
    go_wp2_with fail
    refine HN.out.mono ?_
    rintro e w1 ⟨rfl, rfl⟩
    go_wp2_with fail
    go_ret
    exact ⟨by rw [hr.out]; rfl, rfl⟩
  · have hr := Lib.hid (hkp h)
    have e0 : ((n : Int) != (s.size : Int)) = true := by simp; omega
    clear hka hkp
    go_enter Tryz.func10, Tryz.ntmps10
    go_wp2_with fail
    refine HN.out.mono ?_
    rintro e w1 ⟨rfl, rfl⟩
    go_wp2_with fail
    go_ret
    exact ⟨by rw [hr.out]; rfl, rfl⟩

theorem mark_dots {x : List UInt8} (h : x = [46, 46, 46]) : rightB (1, x) = true := by subst h; decide +kernel
theorem mark_one {b : UInt8} : rightB (1, [b]) = isMark b := by
  have hp : pre [46, 46, 46] [b] = false := by simp [pre, List.isPrefixOf]
  have hm : markN [b] = if isMark b then 1 else 0 := by simp only [markN, hp]; rfl
  rw [right1]
  cases hb : isMark b
  · rw [hb] at hm
    exact decide_eq_false (fun h => by have := h.1; rw [hm] at this; simp at this)
  · rw [hb] at hm
    exact decide_eq_true ⟨by rw [hm]; simp, by rw [hm]; rfl⟩
theorem mark_else {x : List UInt8} (h : x ≠ [46, 46, 46]) (h1 : x.length ≠ 1) : rightB (1, x) = false := by
  rw [right1, decide_eq_false_iff_not]
  rintro ⟨h0, hl⟩
  cases x with
  | nil => simp [markN] at h0
  | cons b t =>
    simp only [markN] at h0 hl
    split at hl
    · rename_i hd
      unfold pre at hd
      rw [List.isPrefixOf_iff_prefix] at hd
      exact h (hd.eq_of_length (by simpa using hl)).symm
    · split at hl
      · omega
      · simp at hl

set_option maxRecDepth 100000 in
set_option maxHeartbeats 1000000 in
theorem rright_mark (x : ByteArray) (w : World) : Calls Tryz.prog 16 #[.agg #[.int .i64 1, .string x]] w fun e w' => e = .returned (.bool (rightB (1, x.data.toList))) ∧ Below w.heap.size w w' := by
  by_cases hd : x.data.toList = [46, 46, 46]
  · have hr := Lib.hid (mark_dots hd)
    have e1 : (x.toList == [46, 46, 46]) = true := by rw [Lib.toList_data, hd]; rfl
    clear hd
    go_enter Tryz.func16, Tryz.ntmps16
    go_wp2_with fail
    go_ret
    exact ⟨ret_bb hr.out.symm, below_new⟩
  · have e1 : (x.toList == [46, 46, 46]) = false := by rw [Lib.toList_data]; simpa using hd
    by_cases h1 : x.size = 1
    · have e2 : ((x.size : Int) == 1) = true := by simp; omega
      have h01 : (0 : Int) < (x.size : Int) := by omega
      have hx : x.data.toList = [x[0]] := by
        have := cons_at x (by omega)
        rw [drop_all x 1 (by omega)] at this
        exact this
      have hr : Hid (rightB (1, x.data.toList) = isMark x[0]) := Lib.hid (by rw [hx]; exact mark_one)
      have HI := Lib.hid (rindex_marks x[0] (w.alloc (.cells #[.int .i64 1, .string x] 37)))
      clear hd hx
      go_enter Tryz.func16, Tryz.ntmps16
      go_wp2_with fail
      refine HI.out.mono ?_
      rintro e w1 ⟨r, rfl, hrr, rfl⟩
      go_wp2_with fail
      go_ret
      exact ⟨ret_bb (by rw [hr.out]), below_new⟩
    · have e2 : ((x.size : Int) == 1) = false := by simp; omega
      have hr := Lib.hid (mark_else hd (by rw [len_data]; exact h1))
      clear hd
      go_enter Tryz.func16, Tryz.ntmps16
      go_wp2_with fail
      go_ret
      exact ⟨ret_bb hr.out.symm, below_new⟩

set_option maxRecDepth 100000 in
set_option maxHeartbeats 1000000 in
theorem rright_name (x : ByteArray) (w : World) (hs : x.size ≤ 9000) : Calls Tryz.prog 16 #[.agg #[.int .i64 2, .string x]] w fun e w' => e = .returned (.bool (rightB (2, x.data.toList))) ∧ Below w.heap.size w w' := by
  rw [right2]
  have HM := Lib.hid (rname_any x (w.alloc (.cells #[.int .i64 2, .string x] 37)) hs)
  go_enter Tryz.func16, Tryz.ntmps16
  go_wp2_with fail
  refine HM.out.mono ?_
  rintro e w1 ⟨rfl, rfl⟩
  go_wp2_with fail
  go_ret
  exact ⟨rfl, below_new⟩

set_option maxRecDepth 100000 in
set_option maxHeartbeats 1000000 in
theorem rright_good (x : ByteArray) (w : World) (hs : x.size ≤ 9000) : Calls Tryz.prog 16 #[.agg #[.int .i64 5, .string x]] w fun e w' => e = .returned (.bool (rightB (5, x.data.toList))) ∧ Below w.heap.size w w' := by
  rw [right5]
  have HM := Lib.hid (rgood_any x (w.alloc (.cells #[.int .i64 5, .string x] 37)) hs)
  go_enter Tryz.func16, Tryz.ntmps16
  go_wp2_with fail
  refine HM.out.mono ?_
  rintro e w1 ⟨rfl, hb⟩
  obtain ⟨c0, c1, hB⟩ := kept_box hb
  have HB := Lib.hid hB
  clear hb hB
  go_wp2_with fail
  go_ret
  exact ⟨rfl, HB.out⟩

set_option maxRecDepth 100000 in
set_option maxHeartbeats 1000000 in
theorem rright_else (k : Int) (x : ByteArray) (w : World) (k1 : (k == 1) = false) (k2 : (k == 2) = false) (k3 : (k == 3) = false) (k4 : (k == 4) = false) (k5 : (k == 5) = false) : Calls Tryz.prog 16 #[.agg #[.int .i64 k, .string x]] w fun e w' => e = .returned (.bool (rightB (k, x.data.toList))) ∧ Below w.heap.size w w' := by
  rw [right_no _ (by simpa using k1) (by simpa using k2) (by simpa using k3) (by simpa using k4) (by simpa using k5)]
  go_enter Tryz.func16, Tryz.ntmps16
  go_wp2
  go_ret
  exact ⟨rfl, below_new⟩

set_option maxRecDepth 100000 in
set_option maxHeartbeats 1000000 in
theorem rright_numb (k : Int) (hk : k = 3 ∨ k = 4) (x : ByteArray) (w : World) (hs : x.size ≤ 9000) : Calls Tryz.prog 16 #[.agg #[.int .i64 k, .string x]] w fun e w' => e = .returned (.bool (rightB (k, x.data.toList))) ∧ Below w.heap.size w w' := by
  have HM := Lib.hid (fun w => rnumber_any x w hs)
  obtain ⟨z, hz⟩ : ∃ z, kindL x.data.toList = z := ⟨_, rfl⟩
  obtain ⟨t, ht⟩ : ∃ t, (z == k) = t := ⟨_, rfl⟩
  have HR : Hid (rightB (k, x.data.toList) = t) := Lib.hid (by
    rcases hk with rfl | rfl
    · rw [right3, hz, ← ht]; rfl
    · rw [right4, hz, ← ht]; rfl)
  rw [hz] at HM
  clear hz
  rcases hk with rfl | rfl
  · by_cases h0 : x.size = 0
    · have hem : x.toList.isEmpty = true := empty_yes h0
      have hr : Hid (rightB (3, x.data.toList) = false) := Lib.hid (by rw [nil_of_size h0]; decide +kernel)
      clear HM HR
      go_enter Tryz.func16, Tryz.ntmps16
      go_wp2
      go_quiet (fail)
      go_wp2
      go_ret
      exact ⟨ret_bb hr.out.symm, bdraw below_new _⟩
    · have hem : x.toList.isEmpty = false := empty_no (by omega)
      go_enter Tryz.func16, Tryz.ntmps16
      go_wp2
      go_quiet (exact (HM.out _).mono fun _ _ h => ⟨h.1, _, h.2.symm⟩)
      go_wp2
      go_ret
      exact ⟨ret_bb HR.out.symm, bdraw below_new _⟩
  · by_cases h0 : x.size = 0
    · have hem : x.toList.isEmpty = true := empty_yes h0
      have hr : Hid (rightB (4, x.data.toList) = false) := Lib.hid (by rw [nil_of_size h0]; decide +kernel)
      clear HM HR
      go_enter Tryz.func16, Tryz.ntmps16
      go_wp2
      go_quiet (fail)
      go_wp2
      go_ret
      exact ⟨ret_bb hr.out.symm, bdraw below_new _⟩
    · have hem : x.toList.isEmpty = false := empty_no (by omega)
      go_enter Tryz.func16, Tryz.ntmps16
      go_wp2
      go_quiet (exact (HM.out _).mono fun _ _ h => ⟨h.1, _, h.2.symm⟩)
      go_wp2
      go_ret
      exact ⟨ret_bb HR.out.symm, bdraw below_new _⟩

theorem rright_any (k : Int) (x : ByteArray) (w : World) (hs : x.size ≤ 9000) : Calls Tryz.prog 16 #[.agg #[.int .i64 k, .string x]] w fun e w' => e = .returned (.bool (rightB (k, x.data.toList))) ∧ Below w.heap.size w w' := by
  by_cases k1 : k = 1
  · subst k1; exact rright_mark x w
  by_cases k2 : k = 2
  · subst k2; exact rright_name x w hs
  by_cases k34 : k = 3 ∨ k = 4
  · exact rright_numb k k34 x w hs
  by_cases k5 : k = 5
  · subst k5; exact rright_good x w hs
  · exact rright_else k x w (by simp; omega) (by simp; omega) (by simp; omega) (by simp; omega) (by simp; omega)
end Go.Proofs.YtfinboplkjijhaaGreatDoor
/- The document's own unit. -/
namespace Go.Proofs.YtfinboplkjijhaaGreatDoor
open Go.RowKit

/-- The text of a block of bytes. -/
theorem some_text (ns : List Int) (b : Nat) (W : World) (h : ∀ (j : Nat) v, (ns.map (Value.int .u8))[j]? = some v → W.cell? ⟨b, j, none⟩ = some v) : (convert 47 9 (.slice (some ⟨b, 0, none⟩) ns.length ns.length)).run Tryz.prog W = .ok (.string ⟨(ns.map fun x => x.toNat.toUInt8).toArray⟩) W := by
  rw [run_convert_bytes_string _ _ _ _ _ _ _ Tryz.underlying47 Tryz.underlying5 Tryz.underlying9]
  rw [run_bytesToString _ _ _ _ ns]
  · have := fold_bytes ns #[]
    rw [show (ByteArray.empty) = (⟨#[]⟩ : ByteArray) from rfl, this]
    simp
  · have := run_loadCells_list (P := Tryz.prog) W ⟨b, 0, none⟩ (ns.map (Value.int .u8)) (fun j v hj => by
      rw [add_here]
      exact h j v hj)
    rw [List.length_map] at this
    exact this
theorem four_cells (w : World) (ns : List Int) (t : TypeId) : ∀ (j : Nat) v, (ns.map (Value.int .u8))[j]? = some v → ((w.alloc (.cells (ns.map (Value.int .u8)).toArray t)).drew).cell? ⟨w.heap.size, j, none⟩ = some v := by
  intro j v hj
  show (w.alloc (.cells (ns.map (Value.int .u8)).toArray t)).cell? ⟨w.heap.size, j, none⟩ = some v
  rw [World.cell?_alloc_at _ _ _ _ rfl]
  simpa using hj

set_option maxRecDepth 100000 in
set_option maxHeartbeats 4000000 in
theorem runit_any (v : Int) (h0 : 0 ≤ v) (h1 : v ≤ 65535) (w : World) : Calls Tryz.prog 61 #[.int .i64 v] w fun e w' => e = .returned (.string ⟨(hexText v).toArray⟩) ∧ Below w.heap.size w w' := by
  obtain ⟨d1, hd1⟩ : ∃ d : Nat, v / 4096 % 16 = d := ⟨(v / 4096 % 16).toNat, by omega⟩
  obtain ⟨d2, hd2⟩ : ∃ d : Nat, v / 256 % 16 = d := ⟨(v / 256 % 16).toNat, by omega⟩
  obtain ⟨d3, hd3⟩ : ∃ d : Nat, v / 16 % 16 = d := ⟨(v / 16 % 16).toNat, by omega⟩
  obtain ⟨d4, hd4⟩ : ∃ d : Nat, v % 16 = d := ⟨(v % 16).toNat, by omega⟩
  have e1 : bits .and .i64 (v / 4096) 15 = (d1 : Int) := by rw [and_low4 (by omega) (by omega)]; exact hd1
  have e2 : bits .and .i64 (v / 256) 15 = (d2 : Int) := by rw [and_low4 (by omega) (by omega)]; exact hd2
  have e3 : bits .and .i64 (v / 16) 15 = (d3 : Int) := by rw [and_low4 (by omega) (by omega)]; exact hd3
  have e4 : bits .and .i64 v 15 = (d4 : Int) := by rw [and_low4 (by omega) (by omega)]; exact hd4
  have s1 := hex_index (d := d1) (by omega)
  have s2 := hex_index (d := d2) (by omega)
  have s3 := hex_index (d := d3) (by omega)
  have s4 := hex_index (d := d4) (by omega)
  have tx := fun w => some_text [((hexD (d1 : Int)).toNat : Int), ((hexD (d2 : Int)).toNat : Int), ((hexD (d3 : Int)).toNat : Int), ((hexD (d4 : Int)).toNat : Int)] w.heap.size _ (four_cells w _ 5)
  simp only [List.map_cons, List.map_nil, List.length_cons, List.length_nil, Nat.zero_add, Nat.reduceAdd] at tx
  obtain ⟨T, hT⟩ : ∃ T : ByteArray, (⟨#[((hexD (d1 : Int)).toNat : Int).toNat.toUInt8, ((hexD (d2 : Int)).toNat : Int).toNat.toUInt8, ((hexD (d3 : Int)).toNat : Int).toNat.toUInt8, ((hexD (d4 : Int)).toNat : Int).toNat.toUInt8]⟩ : ByteArray) = T := ⟨_, rfl⟩
  have hTs : T.size = 4 := by rw [← hT]; rfl
  have hTh : Hid ((⟨#[92, 117]⟩ : ByteArray) ++ T = ⟨(hexText v).toArray⟩) := Lib.hid (by
    refine ByteArray.ext (Array.toList_inj.1 ?_)
    rw [cat_two, ← hT]
    simp [hexText, hd1, hd2, hd3, hd4])
  simp only [hT] at tx
  clear hT hd1 hd2 hd3 hd4
  go_enter Tryz.func61, Tryz.ntmps61
  go_wp2
  go_big_region
  all_goals go_wp2
  all_goals go_ret
  all_goals exact ⟨by rw [← hTh.out]; rfl, ((Below.refl _ _).drew).alloc (Nat.le_refl _) _⟩
end Go.Proofs.YtfinboplkjijhaaGreatDoor
/- The document's own Quote. -/
namespace Go.Proofs.YtfinboplkjijhaaGreatDoor
open Go.RowKit

theorem cell_next {B : Nat} {w W W' : World} {p : Addr} {v : Value} (hb : Below W.heap.size W W') (h : W.cell? p = some v ∧ Below B w W) (hB : B ≤ w.heap.size) : W'.cell? p = some v ∧ Below B w W' :=
  ⟨(hb.cell (World.block_lt_of_cell? W p h.1)).trans h.1, h.2.trans (hb.mono (by have := h.2.size; omega))⟩
theorem takeQ {cs : List Int} {k : Nat} {c : Int} (h : cs[k]? = some c) : (cs.take (k + 1)).flatMap printQ = (cs.take k).flatMap printQ ++ printQ c := by
  rw [List.take_add_one, h]
  simp
/-- What Quote has written so far. -/
def QAt (cs : List Int) (k : Nat) (S : ByteArray) : Prop := S.data.toList = 34 :: (cs.take k).flatMap printQ
theorem QAt.size {cs : List Int} {k : Nat} {S : ByteArray} (h : QAt cs k S) : S.size ≤ 1 + 12 * cs.length := by
  rw [← len_data, h, List.length_cons]
  have h1 := flatQ_len (cs.take k)
  have h2 : (cs.take k).length ≤ cs.length := by rw [List.length_take]; omega
  omega
theorem QAt.next {cs : List Int} {k : Nat} {c : Int} {S P : ByteArray} (h : QAt cs k S) (hk : cs[k]? = some c) (hP : P.data.toList = printQ c) : QAt cs (k + 1) (S ++ P) := by
  unfold QAt
  rw [cat_two, h, hP, takeQ hk]
  simp

set_option maxRecDepth 100000 in
set_option maxHeartbeats 4000000 in
theorem rquote_any (s : ByteArray) (cs : List Int) (w : World) (hs : s.size ≤ 3000) (hc : codes s.data.toList = some cs) : Calls Tryz.prog 32 #[.string s] w fun e w' => e = .returned (.string ⟨(quoteT cs).toArray⟩) ∧ Below w.heap.size w w' := by
  obtain ⟨hby, hok⟩ := bytes_codes s.data.toList.length s.data.toList cs (Nat.le_refl _) hc
  have hcl : cs.length ≤ 3000 := by
    have := bytes_ge cs
    rw [hby, len_data] at this; omega
  have HC := Lib.hid (rcodes_any s w (by omega))
  rw [show codesS s.data.toList = cs by unfold codesS; rw [hc]] at HC
  have HOK := Lib.hid hok
  clear hby hok hc
  go_enter Tryz.func32, Tryz.ntmps32
  go_wp2_with fail
  refine HC.out.mono ?_
  rintro e w1 ⟨A, c, rfl, hI, hb1⟩
  have HI := Lib.hid hI
  have HB1 := Lib.hid hb1
  have hs1 := hb1.size
  clear hI hb1 HC
  go_wp2
  go_loopg [5, 6] cs.length (fun g sv iv wx => ∃ (k : Nat) (S : ByteArray), k + g = cs.length ∧ sv = .string S ∧ iv = .int .i64 k ∧ Aside (QAt cs k S) ∧ Below w1.heap.size w1 wx)
  case atStart => exact ⟨0, ⟨#[34]⟩, by omega, rfl, rfl, Aside.intro rfl, Below.refl _ _⟩
  case round =>
    obtain ⟨k, S, hk, rfl, rfl, HQ, hb⟩ := hrel
    have hSs := HQ.out.size
    have hSb : S.size ≤ 40000 := by omega
    have HBx := Lib.hid hb
    have hbs := hb.size
    by_cases hlt : k < cs.length
    · have hlt' : (k : Int) < (cs.length : Int) := by omega
      have hk0 : (0 : Int) ≤ (k : Int) := by omega
      obtain ⟨z, hz⟩ : ∃ z, cs[k]? = some z := ⟨_, List.getElem?_eq_getElem hlt⟩
      obtain ⟨b, o, rfl, hbl, c0⟩ := (HI.out.below hb).2 k z hz
      have hzok : okB z = true := by
        have := HOK.out
        rw [List.all_eq_true] at this
        exact this z (List.mem_of_getElem? hz)
      obtain ⟨z0, z1, zh⟩ : 0 ≤ z ∧ z ≤ 1114111 ∧ halfB z = false := by simpa [okB] using hzok
      have HK := Lib.hid hz
      have HN := Lib.hid hzok
      have q2 : (S.size : Int) + 2 = ((S.size + 2 : Nat) : Int) := by omega
      clear hz hzok hb zh
      by_cases c34 : z = 34
      · subst c34
        have hn := Lib.hid (HQ.out.next HK.out (P := ⟨#[92, 34]⟩) (by unfold printQ; rfl))
        clear HQ
        go_wp2
        go_roundg (gk - 1)
        case measure => omega
        case rel => exact ⟨k + 1, _, by omega, rfl, by go_num, Aside.intro hn.out, HBx.out⟩
      have e34 : (z == 34) = false := by simpa using c34
      by_cases c92 : z = 92
      · subst c92
        have hn := Lib.hid (HQ.out.next HK.out (P := ⟨#[92, 92]⟩) (by unfold printQ; rfl))
        clear HQ
        go_wp2
        go_roundg (gk - 1)
        case measure => omega
        case rel => exact ⟨k + 1, _, by omega, rfl, by go_num, Aside.intro hn.out, HBx.out⟩
      have e92 : (z == 92) = false := by simpa using c92
      by_cases c10 : z = 10
      · subst c10
        have hn := Lib.hid (HQ.out.next HK.out (P := ⟨#[92, 110]⟩) (by unfold printQ; rfl))
        clear HQ
        go_wp2
        go_roundg (gk - 1)
        case measure => omega
        case rel => exact ⟨k + 1, _, by omega, rfl, by go_num, Aside.intro hn.out, HBx.out⟩
      have e10 : (z == 10) = false := by simpa using c10
      by_cases c32 : z < 32
      · obtain ⟨P, hP⟩ : ∃ P : ByteArray, (⟨(hexText z).toArray⟩ : ByteArray) = P := ⟨_, rfl⟩
        have HU := Lib.hid (runit_any z z0 (by omega) wr)
        rw [hP] at HU
        have hPs : P.size = 6 := by rw [← hP]; rfl
        have q6 : (S.size : Int) + (P.size : Int) = ((S.size + P.size : Nat) : Int) := by omega
        have hn := Lib.hid (HQ.out.next HK.out (P := P) (by
          rw [← hP]
          unfold printQ
          rw [if_neg c34, if_neg c92, if_neg c10, if_pos (.inl c32), show unitOf z = [z] by unfold unitOf; rw [if_pos (by omega)]]
          simp))
        clear HQ hP
        go_wp2_with fail
        refine HU.out.mono ?_
        rintro e w2 ⟨rfl, hb2⟩
        have HB2 := Lib.hid (HBx.out.trans (hb2.mono hbs))
        clear hb2 HU
        go_wp2_with fail
        go_roundg (gk - 1)
        case measure => omega
        case rel => exact ⟨k + 1, _, by omega, rfl, by go_num, Aside.intro hn.out, HB2.out⟩
      by_cases cb : 65535 < z
      · have g1 : 0 ≤ z - 65536 := by omega
        have g2 : z - 65536 ≤ 1048575 := by omega
        have hdz : 0 ≤ (z - 65536) / 1024 ∧ (z - 65536) / 1024 ≤ 1023 := by omega
        have hmz : 0 ≤ (z - 65536) % 1024 ∧ (z - 65536) % 1024 ≤ 1023 := by omega
        have r1 : IntKind.i64.wrap (z - 65536) = z - 65536 := IntWalk.i64_in _ (by omega)
        have r2 : (z - 65536).tdiv 1024 = (z - 65536) / 1024 := Int.tdiv_eq_ediv_of_nonneg g1
        have r3 : (z - 65536).tmod 1024 = (z - 65536) % 1024 := Int.tmod_eq_emod_of_nonneg g1
        have r4 : IntKind.i64.wrap ((z - 65536) / 1024) = (z - 65536) / 1024 := IntWalk.i64_in _ (by omega)
        have r5 : IntKind.i64.wrap (55296 + (z - 65536) / 1024) = 55296 + (z - 65536) / 1024 := IntWalk.i64_in _ (by omega)
        have r6 : IntKind.i64.wrap (56320 + (z - 65536) % 1024) = 56320 + (z - 65536) % 1024 := IntWalk.i64_in _ (by omega)
        have u1 : 0 ≤ 55296 + (z - 65536) / 1024 := by omega
        have u2 : 55296 + (z - 65536) / 1024 ≤ 65535 := by omega
        have u3 : 0 ≤ 56320 + (z - 65536) % 1024 := by omega
        have u4 : 56320 + (z - 65536) % 1024 ≤ 65535 := by omega
        obtain ⟨P1, hP1⟩ : ∃ P : ByteArray, (⟨(hexText (55296 + (z - 65536) / 1024)).toArray⟩ : ByteArray) = P := ⟨_, rfl⟩
        obtain ⟨P2, hP2⟩ : ∃ P : ByteArray, (⟨(hexText (56320 + (z - 65536) % 1024)).toArray⟩ : ByteArray) = P := ⟨_, rfl⟩
        have s1 : P1.size = 6 := by rw [← hP1]; rfl
        have s2 : P2.size = 6 := by rw [← hP2]; rfl
        have q7 : ¬ 9223372036854775807 < S.size + P1.size := by omega
        have q8 : ¬ 9223372036854775807 < S.size + P1.size + P2.size := by omega
        have hn := Lib.hid (HQ.out.next HK.out (P := P1 ++ P2) (by
          rw [cat_two, ← hP1, ← hP2]
          unfold printQ
          rw [if_neg c34, if_neg c92, if_neg c10, if_pos (.inr cb), show unitOf z = [55296 + (z - 65536) / 1024, 56320 + (z - 65536) % 1024] by unfold unitOf; rw [if_neg (by omega)]]
          simp))
        have X1 := Lib.hid hP1
        have X2 := Lib.hid hP2
        have HB0 : wr.cell? ⟨b, o + k, none⟩ = some (.int .i64 z) ∧ Below w1.heap.size w1 wr := ⟨c0, HBx.out⟩
        have Y1 := Lib.hid s1
        have Y2 := Lib.hid s2
        clear HQ hP1 hP2 s1 s2 g1 g2 hdz hmz HOK HN hSs hbs q2 hs1
        go_wp2_with fail
        go_region_held3 (fun w' => w'.cell? ⟨b, o + k, none⟩ = some (.int .i64 z) ∧ Below w1.heap.size w1 w')
          (first
            | exact cell_next (Below.drew (Below.refl _ _)) HB0 (Nat.le_refl _)
            | exact cell_next (by assumption) (by assumption) (Nat.le_refl _)
            | exact cell_next (by assumption) ⟨by assumption, by assumption⟩ (Nat.le_refl _)
            | go_keep)
          ((first | (go_at_call 61; refine (runit_any _ (by assumption) (by assumption) _).mono ?_; rintro e w' ⟨rfl, hb⟩; (first | rw [X1.out] | rw [X2.out]))))
        all_goals
          have HE := (by assumption : _ ∧ Below w1.heap.size w1 _).2
          have HEn : Hid (QAt cs (k + 1) (S ++ P1 ++ P2)) := Lib.hid (by rw [ByteArray.append_assoc]; exact hn.out)
          have HEb := Lib.hid HE
          clear HE HB0 hn
          go_wp2_with fail
          go_roundg (gk - 1)
          case measure => omega
          case rel => exact ⟨k + 1, _, by omega, rfl, by go_num, Aside.intro HEn.out, HEb.out⟩
      · obtain ⟨P, hP⟩ : ∃ P : ByteArray, (⟨(Lib.encodeRune z).toArray⟩ : ByteArray) = P := ⟨_, rfl⟩
        have HU := Lib.hid (put_any z wr HN.out)
        rw [hP] at HU
        have hPs : P.size ≤ 4 := by rw [← hP, size_mk]; exact (enc_len z).2
        have q6 : (S.size : Int) + (P.size : Int) = ((S.size + P.size : Nat) : Int) := by omega
        have hn := Lib.hid (HQ.out.next HK.out (P := P) (by
          rw [← hP]
          unfold printQ
          rw [if_neg c34, if_neg c92, if_neg c10, if_neg (by omega)]))
        clear HQ hP
        go_wp2_with fail
        refine HU.out.mono ?_
        rintro e w2 ⟨rfl, hb2⟩
        have HB2 := Lib.hid (HBx.out.trans (hb2.mono hbs))
        clear hb2 HU
        go_wp2_with fail
        go_roundg (gk - 1)
        case measure => omega
        case rel => exact ⟨k + 1, _, by omega, rfl, by go_num, Aside.intro hn.out, HB2.out⟩
    · obtain rfl : k = cs.length := by omega
      have q1 : (S.size : Int) + 1 = ((S.size + 1 : Nat) : Int) := by omega
      have hE : Hid (S ++ ⟨#[34]⟩ = (⟨(quoteT cs).toArray⟩ : ByteArray)) := Lib.hid (by
        refine ByteArray.ext (Array.toList_inj.1 ?_)
        have h := HQ.out
        unfold QAt at h
        rw [List.take_of_length_le (Nat.le_refl _)] at h
        rw [cat_two, h]
        simp [quoteT])
      clear HQ hb
      go_wp2
      go_ret
      exact ⟨by rw [← hE.out]; rfl, HB1.out.trans (HBx.out.mono hs1)⟩
end Go.Proofs.YtfinboplkjijhaaGreatDoor
/- The document's own Print. -/
namespace Go.Proofs.YtfinboplkjijhaaGreatDoor
open Go.RowKit

set_option maxRecDepth 100000 in
set_option maxHeartbeats 2000000 in
theorem rprintT_any (A : Option Addr) (n c : Nat) (ts : List (Int × ByteArray)) (w : World) (h : TsAt w w.heap.size A n ts) (hsum : sumT ts ≤ 3000) :
    Calls Tryz.prog 14 #[.slice A n c] w fun e w' => e = .returned (.tuple #[.string ⟨(printS (bareT ts)).toArray⟩, .bool ((bareT ts).all rightB)]) ∧ Below w.heap.size w w' := by
  have HL := Lib.hid h.1
  have H := Lib.hid h
  have hn : n ≤ 3000 := by have := sumT_len ts; have := h.1; omega
  clear h
  go_enter Tryz.func14, Tryz.ntmps14
  go_wp2
  go_loopg [4, 5] n (fun g sv i wx => ∃ (k : Nat) (S : ByteArray), k + g = n ∧ sv = .string S ∧ i = .int .i64 k ∧ Aside ((bareT (ts.take k)).all rightB = true) ∧ Aside (S.data.toList = printL (bareT (ts.take k))) ∧ Below w.heap.size w wx)
  case atStart => exact ⟨0, ⟨#[]⟩, by omega, rfl, rfl, Aside.intro rfl, Aside.intro rfl, Below.refl _ _⟩
  case round =>
    obtain ⟨k, S, hk, rfl, rfl, HR, HX, hb⟩ := hrel
    have hbs := hb.size
    have HBx := Lib.hid hb
    have hSs : S.size ≤ 39000 := by
      have h1 := printL_len (ts.take k)
      have h2 := sumT_take ts k
      rw [← len_data, HX.out]
      omega
    by_cases hlt : k < n
    · have hlt' : (k : Int) < (n : Int) := by omega
      have hk0 : (0 : Int) ≤ (k : Int) := by omega
      obtain ⟨⟨z, x⟩, ht⟩ : ∃ t, ts[k]? = some t := ⟨_, List.getElem?_eq_getElem (by rw [HL.out]; omega)⟩
      obtain ⟨bb, o, rfl, hbb, c0, c1⟩ := (H.out.below hb).2 k _ ht
      simp only at c0 c1
      have hx : x.size ≤ 3000 := by have h := sumT_mem ht; simp only at h; omega
      have HT := Lib.hid ht
      have HRc := Lib.hid (rright_any z x wr (by omega))
      obtain ⟨rb, hrb⟩ : ∃ rb, rightB (z, x.data.toList) = rb := ⟨_, rfl⟩
      rw [hrb] at HRc
      have HRT := Lib.hid hrb
      clear hrb ht hb
      go_wp2_with fail
      refine HRc.out.mono ?_
      rintro e w2 ⟨rfl, hb2⟩
      have HB2 : Hid (Below w.heap.size w w2) := Lib.hid (HBx.out.trans (hb2.mono hbs))
      obtain ⟨bb', o', e', hbb', c0, c1⟩ := (H.out.below HB2.out).2 k _ HT.out
      injection e' with e'
      injection e' with e1 e2
      subst e1 e2
      simp only at c0 c1
      clear hb2 HRc
      cases rb
      · have hf := Lib.hid (all_bad HT.out HRT.out)
        go_wp2_with fail
        go_ret2
        exact ⟨by rw [hf.out, printS_no hf.out]; rfl, HB2.out⟩
      · have q1 : (S.size : Int) + 1 = ((S.size + 1 : Nat) : Int) := by omega
        by_cases hk1 : 0 < k
        · have hk1' : (k : Int) > 0 := by omega
          by_cases hz : z = 5
          · subst hz
            have HQ := Lib.hid (quote_codes5 HRT.out)
            have HU := Lib.hid (rquote_any x (codesT x.data.toList) w2 (by omega) HQ.out.1)
            obtain ⟨P, hP⟩ : ∃ P : ByteArray, (⟨(quoteT (codesT x.data.toList)).toArray⟩ : ByteArray) = P := ⟨_, rfl⟩
            rw [hP] at HU
            have hPd : P.data.toList = printT (5, x.data.toList) := by rw [← hP, HQ.out.2]
            have hPs : P.size ≤ 40000 := by rw [← len_data, hPd]; have := printT_len 5 x; omega
            have q2 : ((S.size + 1 : Nat) : Int) + (P.size : Int) = ((S.size + 1 + P.size : Nat) : Int) := by omega
            have HN : Hid ((S ++ ⟨#[32]⟩ ++ P).data.toList = printL (bareT (ts.take (k + 1)))) := Lib.hid (by rw [cat_two, cat_two, HX.out, hPd, print_next HT.out hk1])
            clear HX hP hPd HQ
            go_wp2_with fail
            refine HU.out.mono ?_
            rintro e w3 ⟨rfl, hb3⟩
            have HB3 := Lib.hid (HB2.out.trans (hb3.mono HB2.out.size))
            clear hb3 HU
            go_wp2_with fail
            go_roundg (gk - 1)
            case measure => omega
            case rel => exact ⟨k + 1, _, by omega, rfl, by go_num, Aside.intro (by rw [all_step HT.out HR.out]; exact HRT.out), Aside.intro HN.out, HB3.out⟩
          · have e5 : (z == 5) = false := by simpa using hz
            have q2 : ((S.size + 1 : Nat) : Int) + (x.size : Int) = ((S.size + 1 + x.size : Nat) : Int) := by omega
            have HN : Hid ((S ++ ⟨#[32]⟩ ++ x).data.toList = printL (bareT (ts.take (k + 1)))) := Lib.hid (by rw [cat_two, cat_two, HX.out, print_next HT.out hk1, plain_text hz])
            clear HX
            go_wp2_with fail
            go_roundg (gk - 1)
            case measure => omega
            case rel => exact ⟨k + 1, _, by omega, rfl, by go_num, Aside.intro (by rw [all_step HT.out HR.out]; exact HRT.out), Aside.intro HN.out, HB2.out⟩
        · obtain rfl : k = 0 := by omega
          simp only [Nat.zero_mul, Nat.add_zero] at c0 c1
          by_cases hz : z = 5
          · subst hz
            have HQ := Lib.hid (quote_codes5 HRT.out)
            have HU := Lib.hid (rquote_any x (codesT x.data.toList) w2 (by omega) HQ.out.1)
            obtain ⟨P, hP⟩ : ∃ P : ByteArray, (⟨(quoteT (codesT x.data.toList)).toArray⟩ : ByteArray) = P := ⟨_, rfl⟩
            rw [hP] at HU
            have hPd : P.data.toList = printT (5, x.data.toList) := by rw [← hP, HQ.out.2]
            have hPs : P.size ≤ 40000 := by rw [← len_data, hPd]; have := printT_len 5 x; omega
            have q2 : (S.size : Int) + (P.size : Int) = ((S.size + P.size : Nat) : Int) := by omega
            have HN : Hid ((S ++ P).data.toList = printL (bareT (ts.take (0 + 1)))) := Lib.hid (by rw [cat_two, HX.out, hPd, print_first HT.out])
            clear HX hP hPd HQ
            go_wp2_with fail
            refine HU.out.mono ?_
            rintro e w3 ⟨rfl, hb3⟩
            have HB3 := Lib.hid (HB2.out.trans (hb3.mono HB2.out.size))
            clear hb3 HU
            go_wp2_with fail
            go_roundg (gk - 1)
            case measure => omega
            case rel => exact ⟨0 + 1, _, by omega, rfl, by go_num, Aside.intro (by rw [all_step HT.out HR.out]; exact HRT.out), Aside.intro HN.out, HB3.out⟩
          · have e5 : (z == 5) = false := by simpa using hz
            have q2 : (S.size : Int) + (x.size : Int) = ((S.size + x.size : Nat) : Int) := by omega
            have HN : Hid ((S ++ x).data.toList = printL (bareT (ts.take (0 + 1)))) := Lib.hid (by rw [cat_two, HX.out, print_first HT.out, plain_text hz])
            clear HX
            go_wp2_with fail
            go_roundg (gk - 1)
            case measure => omega
            case rel => exact ⟨0 + 1, _, by omega, rfl, by go_num, Aside.intro (by rw [all_step HT.out HR.out]; exact HRT.out), Aside.intro HN.out, HB2.out⟩
    · obtain rfl : k = n := by omega
      have hall : Hid ((bareT ts).all rightB = true) := Lib.hid (by
        have h := HR.out
        rwa [List.take_of_length_le (by rw [HL.out]; omega)] at h)
      have HI : Hid (S = (⟨(printL (bareT ts)).toArray⟩ : ByteArray)) := Lib.hid (by
        have h := HX.out
        rw [List.take_of_length_le (by rw [HL.out]; omega)] at h
        exact (mk_of h).symm)
      clear HX HR hb
      go_wp2_with fail
      go_ret2
      exact ⟨by rw [hall.out, printS_yes hall.out, ← HI.out]; rfl, HBx.out⟩
end Go.Proofs.YtfinboplkjijhaaGreatDoor
