/- The document's own parts: run, index, numeral, Number. -/
import Derived.Test.YtcfdfgbobnocnaaGreatDoorTNum2
import Derived.Test.YtcfdfgbobnocnaaGreatDoorVNum
import Derived.Test.YtcfdfgbobnocnaaGreatDoorVRNamed
import Derived.Deep.CutRange
import Derived.Deep.DeepCutAuto
namespace Go.Proofs.YtcfdfgbobnocnaaGreatDoor
open Go.RowKit

set_option maxRecDepth 100000 in
set_option maxHeartbeats 1000000 in
theorem rrun_any (s : ByteArray) (i : Nat) (w : World) (hs : s.size ≤ 9000) (hi : i ≤ s.size) : Calls Tryz.prog 74 #[.string s, .int .i64 (i : Int)] w fun e w' => e = .returned (.int .i64 (runL (s.data.toList.drop i))) ∧ w = w' := by
  go_enter Tryz.func74, Tryz.ntmps74
  go_wp2
  go_loopg [5] (s.size - i) (fun g n wx => ∃ k : Nat, i + k + g = s.size ∧ n = .int .i64 k ∧ Aside (runL (s.data.toList.drop i) = k + runL (s.data.toList.drop (i + k))) ∧ w = wx)
  case atStart => exact ⟨0, by omega, rfl, Aside.intro (by simp), rfl⟩
  case round =>
    obtain ⟨k, hk, rfl, HR, rfl⟩ := hrel
    obtain ⟨E, hE⟩ : ∃ E : Nat, i + k = E := ⟨_, rfl⟩
    have hik : (i : Int) + (k : Int) = (E : Int) := by omega
    rw [hE] at HR
    by_cases hlt : E < s.size
    · have hlt' : (E : Int) < (s.size : Int) := by omega
      have hE0 : (0 : Int) ≤ (E : Int) := by omega
      have hd := drop_at s E hlt
      cases c : digB (s[E].toNat : Int)
      · have hr : Hid (runL (s.data.toList.drop i) = k) := Lib.hid (by
          rw [HR.out, runL_no (by rw [hd]; exact c)]; rfl)
        have HD := Lib.hid (rdigit_any (s[E].toNat : Int) w)
        rw [c] at HD
        clear HR hd c hE
        go_wp2_with fail
        refine HD.out.mono ?_
        rintro e w1 ⟨rfl, rfl⟩
        go_wp2_with fail
        go_ret
        exact ⟨by rw [hr.out]; rfl, rfl⟩
      · have hr : Hid (runL (s.data.toList.drop i) = (k + 1 : Nat) + runL (s.data.toList.drop (i + (k + 1)))) := Lib.hid (by
          rw [HR.out, hd, runL_yes c, show i + (k + 1) = E + 1 by omega]; omega)
        have HD := Lib.hid (rdigit_any (s[E].toNat : Int) w)
        rw [c] at HD
        clear HR hd c
        go_wp2_with fail
        refine HD.out.mono ?_
        rintro e w1 ⟨rfl, rfl⟩
        go_wp2_with fail
        go_roundg (gk - 1)
        case measure => omega
        case rel => exact ⟨k + 1, by omega, by go_num, Aside.intro hr.out, rfl⟩
    · have hlt' : ¬ (E : Int) < (s.size : Int) := by omega
      have hr : Hid (runL (s.data.toList.drop i) = k) := Lib.hid (by
        rw [HR.out, drop_all s E (by omega)]; rfl)
      clear HR hE
      go_wp2
      go_ret
      exact ⟨by rw [hr.out]; rfl, rfl⟩

theorem not_more {xs : List UInt8} {k : Nat} {b y : UInt8} (h : (xs.take k).contains b = false) (hk : xs[k]? = some y) (hy : (y == b) = false) : (xs.take (k + 1)).contains b = false := by
  rw [List.take_add_one, hk]
  cases hc : (xs.take k ++ (some y).toList).contains b
  · rfl
  · rw [List.contains_iff_mem] at hc
    rcases List.mem_append.1 hc with h1 | h1
    · rw [List.contains_iff_mem.2 h1] at h; cases h
    · simp at h1
      subst h1
      simp at hy
set_option maxRecDepth 100000 in
theorem minus_cases (s : ByteArray) : (s.size = 0 ∧ minusL s.data.toList = 0) ∨ ∃ h : 0 < s.size, minusL s.data.toList = if s[0] == 45 then 1 else 0 := by
  rcases Nat.eq_zero_or_pos s.size with h | h
  · exact .inl ⟨h, by rw [nil_of_size h]; rfl⟩
  · exact .inr ⟨h, by rw [cons_at s h]; rfl⟩
theorem whole_at (s : ByteArray) (m : Nat) (h : m < s.size) : wholeL (s.data.toList.drop m) = if s[m] == 48 then 1 else runL (s.data.toList.drop m) := by
  rw [drop_at s m h]; rfl
theorem frac_cases (s : ByteArray) (K : Nat) : (s.size ≤ K ∧ fracL (s.data.toList.drop K) = 0) ∨ ∃ h : K < s.size, fracL (s.data.toList.drop K) = if s[K] == 46 then (if runL (s.data.toList.drop (K + 1)) = 0 then 0 else 1 + runL (s.data.toList.drop (K + 1))) else 0 := by
  rcases Nat.lt_or_ge K s.size with h | h
  · exact .inr ⟨h, by rw [drop_at s K h]; rfl⟩
  · exact .inl ⟨h, by rw [drop_all s K h]; rfl⟩
theorem expo_cases (s : ByteArray) (K : Nat) : (s.size ≤ K ∧ expoL (s.data.toList.drop K) = 0) ∨ ∃ h : K < s.size, expoL (s.data.toList.drop K) = if s[K] == 101 || s[K] == 69 then (if runL (s.data.toList.drop (K + 1 + signL (s.data.toList.drop (K + 1)))) = 0 then 0 else 1 + signL (s.data.toList.drop (K + 1)) + runL (s.data.toList.drop (K + 1 + signL (s.data.toList.drop (K + 1))))) else 0 := by
  rcases Nat.lt_or_ge K s.size with h | h
  · exact .inr ⟨h, by rw [drop_at s K h]; simp only [expoL, List.drop_drop]⟩
  · exact .inl ⟨h, by rw [drop_all s K h]; rfl⟩
theorem sign_cases (s : ByteArray) (K : Nat) : (s.size ≤ K ∧ signL (s.data.toList.drop K) = 0) ∨ ∃ h : K < s.size, signL (s.data.toList.drop K) = if s[K] == 43 || s[K] == 45 then 1 else 0 := by
  rcases Nat.lt_or_ge K s.size with h | h
  · exact .inr ⟨h, by rw [drop_at s K h]; rfl⟩
  · exact .inl ⟨h, by rw [drop_all s K h]; rfl⟩
theorem run_drop_le (s : ByteArray) (m : Nat) (h : m ≤ s.size) : m + runL (s.data.toList.drop m) ≤ s.size := by
  have := runL_le (s.data.toList.drop m)
  rw [List.length_drop, len_data] at this
  omega
theorem ret_nk {a b : Nat} {k j : Int} (h : a = b) (h2 : k = j) : Ending.returned (.tuple #[.int .i64 (a : Int), .int .i64 k]) = .returned (.tuple #[.int .i64 (b : Int), .int .i64 j]) := by rw [h, h2]

set_option maxRecDepth 100000 in
set_option maxHeartbeats 4000000 in
theorem rnumeral_any (s : ByteArray) (w : World) (hs : s.size ≤ 9000) : Calls Tryz.prog 57 #[.string s] w fun e w' => e = .returned (.tuple #[.int .i64 ((numeralL s.data.toList).1 : Int), .int .i64 (numeralL s.data.toList).2]) ∧ w = w' := by
  obtain ⟨m, hm⟩ : ∃ m, minusL s.data.toList = m := ⟨_, rfl⟩
  have hmc := minus_cases s
  rw [hm] at hmc
  have hms : m ≤ s.size := by
    rcases hmc with ⟨_, h⟩ | ⟨h, h'⟩
    · omega
    · split at h' <;> omega
  obtain ⟨R, hR⟩ : ∃ R, runL (s.data.toList.drop m) = R := ⟨_, rfl⟩
  have H1 := Lib.hid (rrun_any s m w hs hms)
  have hRs := run_drop_le s m hms
  rw [hR] at H1 hRs
  have HMC := Lib.hid hmc
  have HM := Lib.hid hm
  have HR := Lib.hid hR
  clear hmc hm hR
  go_enter Tryz.func57, Tryz.ntmps57
  obtain ⟨b1, hb1⟩ : ∃ b1 : Bool, (m = 1) = (b1 = true) := ⟨decide (m = 1), by simp⟩
  have hm1 : m ≤ 1 := by
    rcases HMC.out with ⟨_, h⟩ | ⟨h, h'⟩
    · omega
    · split at h' <;> omega
  go_upto_region 2 with (fail)
  go_cut [17] (fun t wx => t = .bool b1 ∧ w = wx)
  case first =>
    rcases HMC.out with ⟨h0, hm0⟩ | ⟨h0, hm0⟩
    · have hlt : ¬ (0 : Int) < (s.size : Int) := by omega
      obtain rfl : b1 = false := by cases b1 <;> simp at hb1 ⊢; omega
      go_wp2
      go_meet
      exact ⟨rfl, rfl⟩
    · have hlt : (0 : Int) < (s.size : Int) := by omega
      cases c : (s[0] == 45)
      · obtain ⟨a1, _⟩ := beqF c 45 rfl
        rw [c] at hm0
        obtain rfl : b1 = false := by cases b1 <;> simp at hb1 hm0 ⊢; omega
        clear c hm0 hb1
        go_wp2
        go_meet
        exact ⟨rfl, rfl⟩
      · obtain ⟨a1, _⟩ := beqT c 45 rfl
        rw [c] at hm0
        obtain rfl : b1 = true := by cases b1 <;> simp at hb1 hm0 ⊢; omega
        clear c hm0 hb1
        go_wp2
        go_meet
        exact ⟨rfl, rfl⟩
  case rest =>
    obtain ⟨rfl, rfl⟩ := hcut
    go_upto_if 17 with (fail)
    go_cut [4] (fun i wx => i = .int .i64 m ∧ w = wx)
    case first =>
      cases b1
      · obtain rfl : m = 0 := by simp at hb1; omega
        go_wp2
        go_meet
        exact ⟨rfl, rfl⟩
      · obtain rfl : m = 1 := by simpa using hb1
        go_wp2
        go_meet
        exact ⟨rfl, rfl⟩
    case rest =>
      obtain ⟨rfl, rfl⟩ := hcut
      by_cases hR0 : R = 0
      · have hr : Hid (numeralL s.data.toList = (0, 0)) := Lib.hid (by
          unfold numeralL
          rw [HM.out, if_pos ((whole_run _).2 (by rw [HR.out]; exact hR0))])
        have e0 : ((R : Int) == 0) = true := by simp; omega
        go_wp2_with fail
        refine H1.out.mono ?_
        rintro e w1 ⟨rfl, rfl⟩
        go_wp2_with fail
        go_ret2
        exact ⟨by rw [hr.out]; rfl, rfl⟩
      · have e0 : ((R : Int) == 0) = false := by simp; omega
        have hmlt : m < s.size := by omega
        obtain ⟨W, hW⟩ : ∃ W, wholeL (s.data.toList.drop m) = W := ⟨_, rfl⟩
        have hWc := whole_at s m hmlt
        rw [hW, HR.out] at hWc
        have hW0 : W ≠ 0 := by split at hWc <;> omega
        have hWR : W ≤ R := by split at hWc <;> omega
        obtain ⟨K, hK⟩ : ∃ K, m + W = K := ⟨_, rfl⟩
        have HW := Lib.hid hW
        have HWC := Lib.hid hWc
        clear hW hWc
        have hmlt' : (m : Int) < (s.size : Int) := by omega
        have hm0 : (0 : Int) ≤ (m : Int) := by omega
        go_wp2_with fail
        refine H1.out.mono ?_
        rintro e w1 ⟨rfl, rfl⟩
        go_upto_if 28 with (fail)
        go_cut [5] (fun n wx => n = .int .i64 W ∧ w = wx)
        case first =>
          cases c : (s[m] == 48)
          · obtain ⟨a1, _⟩ := beqF c 48 rfl
            have hc := HWC.out
            rw [c] at hc
            obtain rfl : W = R := by simpa using hc
            clear c hc
            go_wp2
            go_meet
            exact ⟨rfl, rfl⟩
          · obtain ⟨a1, _⟩ := beqT c 48 rfl
            have hc := HWC.out
            rw [c] at hc
            obtain rfl : W = 1 := by simpa using hc
            clear c hc
            go_wp2
            go_meet
            exact ⟨rfl, rfl⟩
        case rest =>
          obtain ⟨rfl, rfl⟩ := hcut
          have hKI : (m : Int) + (W : Int) = (K : Int) := by omega
          have hKs : K ≤ s.size := by omega
          have hK0 : (0 : Int) ≤ (K : Int) := by omega
          obtain ⟨f, hf⟩ : ∃ f, fracL (s.data.toList.drop K) = f := ⟨_, rfl⟩
          have HFC := Lib.hid (frac_cases s K)
          rw [hf] at HFC
          have HF := Lib.hid hf
          obtain ⟨P1, hP1⟩ : ∃ P1, K + 1 = P1 := ⟨_, rfl⟩
          have hP1I : (K : Int) + 1 = (P1 : Int) := by omega
          rw [hP1] at HFC
          obtain ⟨R2, hR2⟩ : ∃ R2, runL (s.data.toList.drop P1) = R2 := ⟨_, rfl⟩
          rw [hR2] at HFC
          have HRun2 := Lib.hid (fun h => rrun_any s P1 w hs h)
          rw [hR2] at HRun2
          have hR2s := fun h => run_drop_le s P1 h
          rw [hR2] at hR2s
          obtain ⟨b2, hb2⟩ : ∃ b2 : Bool, (f ≠ 0) = (b2 = true) := ⟨decide (f ≠ 0), by simp⟩
          have hf2 : Hid (f ≠ 0 → P1 + R2 ≤ s.size ∧ f = 1 + R2) := Lib.hid (fun h => by
            rcases HFC.out with ⟨_, h'⟩ | ⟨hlt, h'⟩
            · omega
            · have := hR2s (by omega)
              split at h'
              · split at h' <;> omega
              · omega)
          clear hf hR2 hR2s
          go_upto_region 10 with (fail)
          go_cut [48] (fun t wx => t = .bool b2 ∧ w = wx)
          case first =>
            rcases HFC.out with ⟨hge, h'⟩ | ⟨hlt, h'⟩
            · have hlt' : ¬ (K : Int) < (s.size : Int) := by omega
              obtain rfl : b2 = false := by cases b2 <;> simp at hb2 ⊢; omega
              go_wp2
              go_meet
              exact ⟨rfl, rfl⟩
            · have hlt' : (K : Int) < (s.size : Int) := by omega
              cases c : (s[K] == 46)
              · obtain ⟨a1, _⟩ := beqF c 46 rfl
                rw [c] at h'
                obtain rfl : b2 = false := by cases b2 <;> simp at hb2 h' ⊢; omega
                clear c h' hb2
                go_wp2
                go_meet
                exact ⟨rfl, rfl⟩
              · obtain ⟨a1, _⟩ := beqT c 46 rfl
                rw [c] at h'
                have HC := Lib.hid (HRun2.out (by omega))
                by_cases hz : R2 = 0
                · have hz' : ¬ (R2 : Int) > 0 := by omega
                  obtain rfl : b2 = false := by cases b2 <;> simp [hz] at hb2 h' ⊢; omega
                  clear c h' hb2
                  go_wp2_with fail
                  refine HC.out.mono ?_
                  rintro e w1 ⟨rfl, rfl⟩
                  go_wp2
                  go_meet
                  exact ⟨rfl, rfl⟩
                · have hz' : (R2 : Int) > 0 := by omega
                  obtain rfl : b2 = true := by cases b2 <;> simp [hz] at hb2 h' ⊢; omega
                  clear c h' hb2
                  go_wp2_with fail
                  refine HC.out.mono ?_
                  rintro e w1 ⟨rfl, rfl⟩
                  go_wp2
                  go_meet
                  exact ⟨congrArg Value.bool (decide_eq_true (by omega)), rfl⟩
          case rest =>
            obtain ⟨rfl, rfl⟩ := hcut
            obtain ⟨K2, hK2⟩ : ∃ K2, K + f = K2 := ⟨_, rfl⟩
            obtain ⟨kd, hkd⟩ : ∃ kd : Int, (if f = 0 then (3 : Int) else 4) = kd := ⟨_, rfl⟩
            go_upto_if 48 with (fail)
            go_cut [4, 6] (fun i k wx => i = .int .i64 K2 ∧ k = .int .i64 kd ∧ w = wx)
            case first =>
              cases b2
              · have h0 : f = 0 := by simpa using hb2
                obtain rfl : K = K2 := by omega
                obtain rfl : 3 = kd := by rw [← hkd, if_pos h0]
                go_wp2
                go_meet
                exact ⟨rfl, rfl, rfl⟩
              · have h0 : f ≠ 0 := by simpa using hb2
                obtain ⟨g1, g2⟩ := hf2.out h0
                obtain rfl : 4 = kd := by rw [← hkd, if_neg h0]
                have HC := Lib.hid (HRun2.out (by omega))
                have hsum : (P1 : Int) + (R2 : Int) = (K2 : Int) := by omega
                go_wp2_with fail
                refine HC.out.mono ?_
                rintro e w1 ⟨rfl, rfl⟩
                go_wp2
                go_meet
                exact ⟨rfl, rfl, rfl⟩
            case rest =>
              obtain ⟨rfl, rfl, rfl⟩ := hcut
              have hK2s : K2 ≤ s.size := by
                by_cases h0 : f = 0
                · omega
                · have := hf2.out h0; omega
              have hK20 : (0 : Int) ≤ (K2 : Int) := by omega
              obtain ⟨x, hx⟩ : ∃ x, expoL (s.data.toList.drop K2) = x := ⟨_, rfl⟩
              have hXC := expo_cases s K2
              rw [hx] at hXC
              obtain ⟨Q, hQ⟩ : ∃ Q, K2 + 1 = Q := ⟨_, rfl⟩
              have hQI : (K2 : Int) + 1 = (Q : Int) := by omega
              rw [hQ] at hXC
              obtain ⟨sg, hsg⟩ : ∃ sg, signL (s.data.toList.drop Q) = sg := ⟨_, rfl⟩
              have hSC := sign_cases s Q
              rw [hsg] at hXC hSC
              obtain ⟨T, hT⟩ : ∃ T, Q + sg = T := ⟨_, rfl⟩
              rw [hT] at hXC
              obtain ⟨R3, hR3⟩ : ∃ R3, runL (s.data.toList.drop T) = R3 := ⟨_, rfl⟩
              have HRun3 := Lib.hid (fun h => rrun_any s T w hs h)
              have hR3s := fun h => run_drop_le s T h
              rw [hR3] at hXC HRun3 hR3s
              have HXC := Lib.hid hXC
              have HSC := Lib.hid hSC
              have hr : Hid (numeralL s.data.toList = (K2 + x, if f = 0 ∧ x = 0 then 3 else 4)) := Lib.hid (number_mid HM.out HW.out hW0 hK HF.out hK2 hx rfl)
              have HKD := Lib.hid hkd
              obtain ⟨b3, hb3⟩ : ∃ b3 : Bool, b3 = (match s.data.toList.drop K2 with | [] => false | b :: _ => b == 101 || b == 69) := ⟨_, rfl⟩
              have H3T : Hid (b3 = true → ∃ h : K2 < s.size, (s[K2] == 101 || s[K2] == 69) = true) := Lib.hid (fun h => by
                rcases Nat.lt_or_ge K2 s.size with hl | hl
                · rw [drop_at s K2 hl] at hb3; exact ⟨hl, by rw [← h, hb3]⟩
                · rw [drop_all s K2 hl] at hb3; rw [hb3] at h; cases h)
              have H3F : Hid (b3 = false → x = 0) := Lib.hid (fun h => by
                rcases hXC with ⟨_, h'⟩ | ⟨hl, h'⟩
                · exact h'
                · rw [drop_at s K2 hl] at hb3
                  rw [h'] 
                  have hb : (s[K2] == 101 || s[K2] == 69) = false := by rw [← h, hb3]
                  rw [hb]; rfl)
              have H3C : Hid ((s.size ≤ K2 ∧ b3 = false) ∨ ∃ h : K2 < s.size, b3 = (s[K2] == 101 || s[K2] == 69)) := Lib.hid (by
                rcases Nat.lt_or_ge K2 s.size with hl | hl
                · exact .inr ⟨hl, by rw [hb3, drop_at s K2 hl]⟩
                · exact .inl ⟨hl, by rw [hb3, drop_all s K2 hl]⟩)
              clear hx hXC hsg hSC hR3 hkd hb3
              go_upto_region 12 with (fail)
              go_cut [71] (fun t wx => t = .bool b3 ∧ w = wx)
              case first =>
                rcases H3C.out with ⟨hge, h'⟩ | ⟨hlt, h'⟩
                · have hlt' : ¬ (K2 : Int) < (s.size : Int) := by omega
                  subst h'
                  go_wp2
                  go_meet
                  exact ⟨rfl, rfl⟩
                · have hlt' : (K2 : Int) < (s.size : Int) := by omega
                  cases c : (s[K2] == 101)
                  · obtain ⟨a1, _⟩ := beqF c 101 rfl
                    cases c2 : (s[K2] == 69)
                    · obtain ⟨a2, _⟩ := beqF c2 69 rfl
                      rw [c, c2] at h'
                      subst h'
                      clear c c2
                      go_wp2
                      go_meet
                      exact ⟨rfl, rfl⟩
                    · obtain ⟨a2, _⟩ := beqT c2 69 rfl
                      rw [c, c2] at h'
                      subst h'
                      clear c c2
                      go_wp2
                      go_meet
                      exact ⟨rfl, rfl⟩
                  · obtain ⟨a1, _⟩ := beqT c 101 rfl
                    rw [c, Bool.true_or] at h'
                    subst h'
                    clear c
                    go_wp2
                    go_meet
                    exact ⟨rfl, rfl⟩
              case rest =>
                obtain ⟨rfl, rfl⟩ := hcut
                cases b3
                · have hx0 := H3F.out rfl
                  go_wp2
                  go_ret2
                  refine ⟨?_, rfl⟩
                  rw [hr.out]
                  exact ret_nk (by omega) (by rw [← HKD.out]; simp [hx0])
                · obtain ⟨hlt, hbe⟩ := H3T.out rfl
                  have HX : Hid (x = if R3 = 0 then 0 else 1 + sg + R3) := Lib.hid (by
                    rcases HXC.out with ⟨_, h'⟩ | ⟨_, h'⟩
                    · omega
                    · rw [h', hbe]; rfl)
                  have hsg1 : sg ≤ 1 ∧ T ≤ s.size := by
                    rcases HSC.out with ⟨_, h'⟩ | ⟨_, h'⟩
                    · omega
                    · split at h' <;> omega
                  have hQ0 : (0 : Int) ≤ (Q : Int) := by omega
                  obtain ⟨b4, hb4⟩ : ∃ b4 : Bool, (sg = 1) = (b4 = true) := ⟨decide (sg = 1), by simp⟩
                  clear hbe
                  go_upto_region 14 with (fail)
                  go_cut [89] (fun t wx => t = .bool b4 ∧ w = wx)
                  case first =>
                    rcases HSC.out with ⟨hge, h'⟩ | ⟨hlt2, h'⟩
                    · have hlt' : ¬ (Q : Int) < (s.size : Int) := by omega
                      obtain rfl : b4 = false := by cases b4 <;> simp at hb4 ⊢; omega
                      go_wp2
                      go_meet
                      exact ⟨rfl, rfl⟩
                    · have hlt' : (Q : Int) < (s.size : Int) := by omega
                      cases c : (s[Q] == 43)
                      · obtain ⟨a1, _⟩ := beqF c 43 rfl
                        cases c2 : (s[Q] == 45)
                        · obtain ⟨a2, _⟩ := beqF c2 45 rfl
                          rw [c, c2] at h'
                          obtain rfl : b4 = false := by cases b4 <;> simp at hb4 h' ⊢; omega
                          clear c c2 h' hb4
                          go_wp2
                          go_meet
                          exact ⟨rfl, rfl⟩
                        · obtain ⟨a2, _⟩ := beqT c2 45 rfl
                          rw [c, c2] at h'
                          obtain rfl : b4 = true := by cases b4 <;> simp at hb4 h' ⊢; omega
                          clear c c2 h' hb4
                          go_wp2
                          go_meet
                          exact ⟨rfl, rfl⟩
                      · obtain ⟨a1, _⟩ := beqT c 43 rfl
                        rw [c, Bool.true_or] at h'
                        obtain rfl : b4 = true := by cases b4 <;> simp at hb4 h' ⊢; omega
                        clear c h' hb4
                        go_wp2
                        go_meet
                        exact ⟨rfl, rfl⟩
                  case rest =>
                    obtain ⟨rfl, rfl⟩ := hcut
                    go_upto_if 89 with (fail)
                    go_cut [7] (fun k wx => k = .int .i64 T ∧ w = wx)
                    case first =>
                      cases b4
                      · obtain rfl : Q = T := by simp at hb4; omega
                        go_wp2
                        go_meet
                        exact ⟨rfl, rfl⟩
                      · have hTI : (Q : Int) + 1 = (T : Int) := by simp at hb4; omega
                        go_wp2
                        go_meet
                        exact ⟨rfl, rfl⟩
                    case rest =>
                      obtain ⟨rfl, rfl⟩ := hcut
                      have HC := Lib.hid (HRun3.out hsg1.2)
                      have hR3b := hR3s hsg1.2
                      by_cases hz : R3 = 0
                      · have hz' : ¬ (R3 : Int) > 0 := by omega
                        have hx0 : x = 0 := by have h := HX.out; rw [if_pos hz] at h; exact h
                        go_wp2_with fail
                        refine HC.out.mono ?_
                        rintro e w1 ⟨rfl, rfl⟩
                        go_wp2_with fail
                        go_ret2
                        refine ⟨?_, rfl⟩
                        rw [hr.out]
                        exact ret_nk (by omega) (by rw [← HKD.out]; simp [hx0])
                      · have hz' : (R3 : Int) > 0 := by omega
                        have hx1 : x = 1 + sg + R3 := by have h := HX.out; rw [if_neg hz] at h; exact h
                        obtain ⟨N, hN⟩ : ∃ N, T + R3 = N := ⟨_, rfl⟩
                        have hNI : (T : Int) + (R3 : Int) = (N : Int) := by omega
                        go_wp2_with fail
                        refine HC.out.mono ?_
                        rintro e w1 ⟨rfl, rfl⟩
                        go_wp2_with fail
                        refine HC.out.mono ?_
                        rintro e w1 ⟨rfl, rfl⟩
                        go_wp2_with fail
                        go_ret2
                        refine ⟨?_, rfl⟩
                        rw [hr.out]
                        exact ret_nk (by omega) (by rw [if_neg (by omega)])
end Go.Proofs.YtcfdfgbobnocnaaGreatDoor
