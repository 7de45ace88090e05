/- The walk of the law ParseDeep. -/
import Derived.Test.YtaohniiemhahdaaGreatDoorQyPaDeep1
import Derived.Test.YtaohniiemhahdaaGreatDoorQyPaDeep2
import Derived.Test.YtaohniiemhahdaaGreatDoorQyPaDeep3
import Derived.Test.YtaohniiemhahdaaGreatDoorQyPaDeep4
namespace Go.Proofs.YtaohniiemhahdaaGreatDoor.LPDeep
open Go.RowKit

theorem okW_all {n k : Nat} (h1 : 1 ≤ n) (h2 : n ≤ 40) (hk : k ≤ n) : okW n k = true := by
  by_cases a : n < 24
  · exact okN_at ok_n1 h1 a hk
  · by_cases b : n < 31
    · exact okN_at ok_n2 (by omega) b hk
    · by_cases c : n < 36
      · exact okN_at ok_n3 (by omega) c hk
      · exact okN_at ok_n4 (by omega) (by omega) hk
theorem res_is {α : Type} {enc : α → TrS} {zero cs : List Value} {w w' : World} {R : Except Int α} {x c : Int} (h : Res enc zero w w' R x cs) (hc : isE R c = true) : x = c := by
  cases R with
  | ok a =>
    have hc : (c == 0) = true := hc
    have hc : c = 0 := by simpa using hc
    rw [h.1, hc]
  | error y =>
    have hc : (c == y) = true := hc
    have hc : c = y := by simpa using hc
    rw [h.1, hc]
theorem typ_is {l : List UInt8} {c : Int} (h : l.all ascB = true) (hl : l.length ≤ 8192) (hc : isE (rA (typeR 4) l) c = true) : (typeA l).2 = c ∧ ∃ n k m, (typeA l).1 = .agg #[.string n, .int .i64 k, .int .i64 m] := by
  unfold typeA readS
  unfold rA at hc
  rw [if_neg (show ¬ 8192 < l.length by omega), source_ascii h]
  cases hr : readL l with
  | none =>
    rw [hr] at hc
    have hc : (c == 2) = true := hc
    have hc : c = 2 := by simpa using hc
    subst hc
    exact ⟨rfl, _, _, _, rfl⟩
  | some ts =>
    rw [hr] at hc
    simp only at hc
    simp only [Bool.true_eq_false, if_false, ne_eq, not_true]
    cases ht : typeR 4 (tokB ts) with
    | error y =>
      rw [ht] at hc
      have hc : (c == y) = true := hc
      have hc : c = y := by simpa using hc
      subst hc
      exact ⟨rfl, _, _, _, rfl⟩
    | ok p =>
      obtain ⟨⟨n, k, m⟩, r⟩ := p
      rw [ht] at hc
      simp only at hc
      by_cases hn : r = []
      · rw [if_pos hn] at hc
        have hc : (c == 0) = true := hc
        have hc : c = 0 := by simpa using hc
        subst hc
        refine ⟨?_, n, k, m, ?_⟩
        · show (if r = [] then _ else _ : Value × Int).2 = 0
          rw [if_pos hn]
        · show (if r = [] then _ else _ : Value × Int).1 = _
          rw [if_pos hn]
      · rw [if_neg hn] at hc
        have hc : (c == 2) = true := hc
        have hc : c = 2 := by simpa using hc
        subst hc
        refine ⟨?_, ⟨#[]⟩, 0, 0, ?_⟩
        · show (if r = [] then _ else _ : Value × Int).2 = 2
          rw [if_neg hn]
        · show (if r = [] then _ else _ : Value × Int).1 = _
          rw [if_neg hn]; rfl
theorem app_list (s : ByteArray) (l : List UInt8) (a : Array UInt8) (h : a.toList = l) : (s ++ ⟨a⟩).data.toList = s.data.toList ++ l := by
  rw [cat_two, h]
/-- What comes behind the texts are made. -/
structure Txt (N K : Nat) (S T U : ByteArray) : Prop where
  s : S.data.toList = sB N N
  t : T.data.toList = tB N K N
  u : U.data.toList = uA N
theorem sz (S : ByteArray) : S.size = S.data.toList.length := by rw [Array.length_toList]; rfl
set_option maxRecDepth 100000 in
set_option maxHeartbeats 8000000 in
theorem out (n k : Int) (w : World) (h3 : Laid3 w) (h5 : Laid5 w) (h : n < 1 ∨ 40 < n ∨ k < 0 ∨ n < k) : Calls Tryz.prog 8 #[.int .i64 n, .int .i64 k] w fun e w' => e = .returned (.bool true) ∧ Below w.heap.size w w' := by
  have HA := Lib.hid (awake_any w h3 h5)
  clear h3 h5
  by_cases a1 : n < 1
  · have t1 : decide (n < 1) = true := by simpa using a1
    clear a1 h
    go_enter Tryz.func8, Tryz.ntmps8
    go_wp2_with fail
    refine HA.out.mono ?_
    rintro e w1 ⟨rfl, hb1⟩
    have B1 := Lib.hid hb1
    clear hb1
    go_wp2_with fail
    go_ret
    exact ⟨rfl, B1.out⟩
  · have t1 : decide (n < 1) = false := by simpa using a1
    by_cases a2 : 40 < n
    · have t2 : decide ((40 : Int) < n) = true := by simpa using a2
      clear a1 a2 h
      go_enter Tryz.func8, Tryz.ntmps8
      go_wp2_with fail
      refine HA.out.mono ?_
      rintro e w1 ⟨rfl, hb1⟩
      have B1 := Lib.hid hb1
      clear hb1
      go_wp2_with fail
      go_ret
      exact ⟨rfl, B1.out⟩
    · have t2 : decide ((40 : Int) < n) = false := by simpa using a2
      by_cases a3 : k < 0
      · have t3 : decide (k < 0) = true := by simpa using a3
        clear a1 a2 a3 h
        go_enter Tryz.func8, Tryz.ntmps8
        go_wp2_with fail
        refine HA.out.mono ?_
        rintro e w1 ⟨rfl, hb1⟩
        have B1 := Lib.hid hb1
        clear hb1
        go_wp2_with fail
        go_ret
        exact ⟨rfl, B1.out⟩
      · have t3 : decide (k < 0) = false := by simpa using a3
        have a4 : n < k := by omega
        have t4 : decide (n < k) = true := by simpa using a4
        clear a1 a2 a3 a4 h
        go_enter Tryz.func8, Tryz.ntmps8
        go_wp2_with fail
        refine HA.out.mono ?_
        rintro e w1 ⟨rfl, hb1⟩
        have B1 := Lib.hid hb1
        clear hb1
        go_wp2_with fail
        go_ret
        exact ⟨rfl, B1.out⟩
set_option maxRecDepth 100000 in
set_option maxHeartbeats 16000000 in
theorem within (N K : Nat) (w : World) (h3 : Laid3 w) (h5 : Laid5 w) (h1 : 1 ≤ N) (h40 : N ≤ 40) (hK : K ≤ N) : Calls Tryz.prog 8 #[.int .i64 (N : Int), .int .i64 (K : Int)] w fun e w' => e = .returned (.bool true) ∧ Below w.heap.size w w' := by
  have HA := fun wx (hb : Below w.heap.size w wx) => Lib.hid (awake_any wx (h3.below hb) (h5.below hb))
  have HD := fun (t : ByteArray) wx (hb : Below w.heap.size w wx) (ht : t.size ≤ 9000) => Lib.hid (pread_any t wx ht (h3.below hb) (h5.below hb))
  have HV := fun (t : ByteArray) wx (hb : Below w.heap.size w wx) (ht : t.size ≤ 9000) => Lib.hid (pvalue_any t true wx ht (h3.below hb) (h5.below hb))
  have HT := fun (t : ByteArray) wx (hb : Below w.heap.size w wx) (ht : t.size ≤ 9000) => Lib.hid (ptype_any t wx ht (h3.below hb))
  have t1 : decide ((N : Int) < 1) = false := by simp; omega
  have t2 : decide ((40 : Int) < (N : Int)) = false := by simp; omega
  have t3 : decide ((K : Int) < 0) = false := by simp
  have t4 : decide ((N : Int) < (K : Int)) = false := by simp; omega
  have t5 : decide (N < K) = false := by simp; omega
  obtain ⟨Q, hQ⟩ : ∃ Q, N - K = Q := ⟨_, rfl⟩
  have hq : (N : Int) - (K : Int) = (Q : Int) := by omega
  have OW := Lib.hid (okW_all h1 h40 hK)
  have OS := Lib.hid (okS_at h40 h1)
  clear h3 h5
  go_enter Tryz.func8, Tryz.ntmps8
  go_wp2_with fail
  go_loopg [5, 6, 7, 8] N (fun g sv tv uv iv wx => ∃ (i : Nat) (S T U : ByteArray), i + g = N ∧ sv = .string S ∧ tv = .string T ∧ uv = .string U ∧ iv = .int .i64 (i : Int) ∧ S.size ≤ 2 * i ∧ T.size ≤ 3 * i ∧ U.size ≤ 2 * i + 3 ∧ Aside (S.data.toList = sA i ∧ T.data.toList = tA Q i ∧ U.data.toList = uA i) ∧ w = wx)
  case atStart => exact ⟨0, ⟨#[]⟩, ⟨#[]⟩, ⟨#[73, 110, 116]⟩, by omega, rfl, rfl, rfl, rfl, Nat.le_refl _, Nat.le_refl _, Nat.le_refl _, vaside ⟨by rw [sA_zero], by rw [tA_zero], by rw [uA_zero]⟩, rfl⟩
  case round =>
    obtain ⟨i, S, T, U, hi, rfl, rfl, rfl, rfl, zs, zt, zu, HX, rfl⟩ := hrel
    by_cases hlt : i < N
    · have hlt' : (i : Int) < (N : Int) := by omega
      have XS := Lib.hid (show (S ++ ⟨#[123, 97]⟩).data.toList = sA (i + 1) by rw [sA_step, ← HX.out.1]; exact app_list _ _ _ rfl)
      have XU := Lib.hid (show ((⟨#[91]⟩ : ByteArray) ++ U ++ ⟨#[93]⟩).data.toList = uA (i + 1) by rw [uA_step, ← HX.out.2.2, app_list _ [93] _ rfl, cat_two])
      have q1 : (1 : Int) + (U.size : Int) = ((1 + U.size : Nat) : Int) := by omega
      have q2 : ((1 + U.size : Nat) : Int) + 1 = ((1 + U.size + 1 : Nat) : Int) := by omega
      by_cases hc : i < Q
      · have XT := Lib.hid (show (T ++ ⟨#[91]⟩).data.toList = tA Q (i + 1) by rw [tA_low hc, ← HX.out.2.1]; exact app_list _ _ _ rfl)
        have hc' : (i : Int) < (Q : Int) := by omega
        clear HX
        go_wp2_with fail
        go_roundg (gk - 1)
        case measure => omega
        case rel => exact ⟨i + 1, _, _, _, by omega, rfl, rfl, rfl, by go_num, by simp only [ByteArray.size_append]; show S.size + 2 ≤ _; omega, by simp only [ByteArray.size_append]; show T.size + 1 ≤ _; omega, by simp only [ByteArray.size_append]; show 1 + U.size + 1 ≤ _; omega, vaside ⟨XS.out, XT.out, XU.out⟩, rfl⟩
      · have XT := Lib.hid (show (T ++ ⟨#[123, 120, 58]⟩).data.toList = tA Q (i + 1) by rw [tA_high hc, ← HX.out.2.1]; exact app_list _ _ _ rfl)
        have hc' : ¬ (i : Int) < (Q : Int) := by omega
        clear HX
        go_wp2_with fail
        go_roundg (gk - 1)
        case measure => omega
        case rel => exact ⟨i + 1, _, _, _, by omega, rfl, rfl, rfl, by go_num, by simp only [ByteArray.size_append]; show S.size + 2 ≤ _; omega, by simp only [ByteArray.size_append]; show T.size + 3 ≤ _; omega, by simp only [ByteArray.size_append]; show 1 + U.size + 1 ≤ _; omega, vaside ⟨XS.out, XT.out, XU.out⟩, rfl⟩
    · obtain rfl : i = N := by omega
      have hlt' : ¬ (i : Int) < (i : Int) := by omega
      have XS := Lib.hid (show S.data.toList = sB i 0 by rw [sB_zero]; exact HX.out.1)
      have XT := Lib.hid (show (T ++ ⟨#[49]⟩).data.toList = tB i K 0 by rw [tB_zero, hQ, ← HX.out.2.1]; exact app_list _ _ _ rfl)
      have XU := Lib.hid HX.out.2.2
      have zt2 : (T ++ ⟨#[49]⟩).size ≤ 3 * i + 1 := by simp only [ByteArray.size_append]; show T.size + 1 ≤ _; omega
      clear HX
      go_wp2_with fail
      generalize T ++ (⟨#[49]⟩ : ByteArray) = T1 at *
      go_loopg [5, 6, 9] i (fun g sv tv iv wx => ∃ (S T : ByteArray), g ≤ i ∧ sv = .string S ∧ tv = .string T ∧ iv = .int .i64 ((g : Int) - 1) ∧ S.size ≤ 2 * i + (i - g) ∧ T.size ≤ 3 * i + 1 + (i - g) ∧ Aside (S.data.toList = sB i (i - g) ∧ T.data.toList = tB i K (i - g)) ∧ w = wx)
      case atStart => exact ⟨S, T1, Nat.le_refl _, rfl, rfl, rfl, by omega, by omega, vaside ⟨by rw [Nat.sub_self]; exact XS.out, by rw [Nat.sub_self]; exact XT.out⟩, rfl⟩
      case round =>
        obtain ⟨S2, T2, hg, rfl, rfl, hiv, zs2, zt3, HX, rfl⟩ := hrel
        cases gk with
        | succ j =>
          have ej : ((j + 1 : Nat) : Int) - 1 = (j : Int) := by omega
          rw [ej] at hiv
          subst hiv
          have hj0 : (0 : Int) ≤ (j : Int) := by omega
          have XS2 := Lib.hid (show (S2 ++ ⟨#[125]⟩).data.toList = sB i (i - j) by rw [show i - j = i - (j + 1) + 1 by omega, sB_step, ← HX.out.1]; exact app_list _ _ _ rfl)
          by_cases hc : j < Q
          · have XT2 := Lib.hid (show (T2 ++ ⟨#[93]⟩).data.toList = tB i K (i - j) by rw [show i - j = i - (j + 1) + 1 by omega, tB_high (by omega), ← HX.out.2]; exact app_list _ _ _ rfl)
            have hc' : (j : Int) < (Q : Int) := by omega
            clear HX
            go_wp2_with fail
            go_roundg j
            case measure => omega
            case rel => exact ⟨_, _, by omega, rfl, rfl, by go_num, by simp only [ByteArray.size_append]; show S2.size + 1 ≤ _; omega, by simp only [ByteArray.size_append]; show T2.size + 1 ≤ _; omega, vaside ⟨XS2.out, XT2.out⟩, rfl⟩
          · have XT2 := Lib.hid (show (T2 ++ ⟨#[125]⟩).data.toList = tB i K (i - j) by rw [show i - j = i - (j + 1) + 1 by omega, tB_low (by omega), ← HX.out.2]; exact app_list _ _ _ rfl)
            have hc' : ¬ (j : Int) < (Q : Int) := by omega
            clear HX
            go_wp2_with fail
            go_roundg j
            case measure => omega
            case rel => exact ⟨_, _, by omega, rfl, rfl, by go_num, by simp only [ByteArray.size_append]; show S2.size + 1 ≤ _; omega, by simp only [ByteArray.size_append]; show T2.size + 1 ≤ _; omega, vaside ⟨XS2.out, XT2.out⟩, rfl⟩
        | zero =>
          have hiv' : ((0 : Nat) : Int) - 1 = -1 := by omega
          rw [hiv'] at hiv
          subst hiv
          have ES := HX.out.1
          have ET := HX.out.2
          rw [Nat.sub_zero] at ES ET
          have q1 : (5 : Int) + (T2.size : Int) = ((5 + T2.size : Nat) : Int) := by omega
          have q2 : ((5 + T2.size : Nat) : Int) + 2 = ((5 + T2.size + 2 : Nat) : Int) := by omega
          have ED : ((⟨#[123, 97, 40, 120, 58]⟩ : ByteArray) ++ T2 ++ ⟨#[41, 125]⟩).data.toList = dB i K := by
            rw [app_list _ [41, 125] _ rfl, cat_two, ET]; rfl
          have zd : ((⟨#[123, 97, 40, 120, 58]⟩ : ByteArray) ++ T2 ++ ⟨#[41, 125]⟩).size ≤ 9000 := by
            have := len_dB i K
            rw [sz, ED]; omega
          have os := OS.out
          have ow := OW.out
          unfold okS at os
          unfold okW at ow
          rw [Bool.and_eq_true] at os ow
          have hSz : S2.size ≤ 9000 := by omega
          have hTz : T2.size ≤ 9000 := by omega
          have hUz : U.size ≤ 9000 := by omega
          have HD1 := fun wx hb => HD S2 wx hb hSz
          have HV1 := fun wx hb => HV T2 wx hb hTz
          have HT1 := fun wx hb => HT U wx hb hUz
          have HD2 := fun wx hb => HD _ wx hb zd
          rw [ES, whole_asc (asc_sB i i) (by rw [len_sB]; omega)] at HD1
          rw [ET, whole_asc (asc_tB i K i) (by have := len_tB i K i; omega)] at HV1
          rw [ED, whole_asc (asc_dB i K) (by have := len_dB i K; omega)] at HD2
          rw [XU.out] at HT1
          obtain ⟨ht2, tn, tk, tm, ht1⟩ := typ_is (asc_uA i) (by rw [len_uA]; omega) os.2
          rw [ht2, ht1] at HT1
          have I1 := Lib.hid os.1
          have I2 := Lib.hid ow.1
          have I3 := Lib.hid ow.2
          clear HX ES ET ED os ow HD HV HT XS XT XU ht1 ht2 OS OW hSz hTz hUz zd
          obtain ⟨b1, g1⟩ : ∃ b, decide ((16 : Int) < (i : Int)) = b := ⟨_, rfl⟩
          obtain ⟨b2, g2⟩ : ∃ b, decide ((4 : Int) < (i : Int)) = b := ⟨_, rfl⟩
          obtain ⟨b3, g3⟩ : ∃ b, decide ((15 : Int) < (i : Int)) = b := ⟨_, rfl⟩
          have W1 : Hid (wantC 16 i = if b1 = true then 4 else 0) := Lib.hid (by unfold wantC; rw [← g1]; by_cases h : 16 < i <;> simp [h] <;> omega)
          have W2 : Hid (wantC 4 i = if b2 = true then 4 else 0) := Lib.hid (by unfold wantC; rw [← g2]; by_cases h : 4 < i <;> simp [h] <;> omega)
          have W3 : Hid (wantC 15 i = if b3 = true then 4 else 0) := Lib.hid (by unfold wantC; rw [← g3]; by_cases h : 15 < i <;> simp [h] <;> omega)
          rw [W2.out] at HT1
          cases b1 <;> cases b2 <;> cases b3
          all_goals
            simp only [Bool.false_eq_true, if_false, if_true] at W1 W2 W3 HT1
            go_wp2_with fail
            refine (HD1 _ (Below.refl _ _)).out.mono ?_
            rintro e w1 ⟨A0, n0, k0, A1, n1, k1, x1, rfl, hr1, hb1⟩
            obtain rfl := (res_is hr1 I1.out).trans W1.out
            have B1 := Lib.hid (hb1.alloc hb1.size (.cells #[.slice A0 n0 k0, .slice A1 n1 k1] 26))
            clear hb1 hr1
            go_wp2_with fail
            refine (HV1 _ B1.out).out.mono ?_
            rintro e w2 ⟨vk, vn, vs, A3, n3, k3, A4, n4, k4, x2, rfl, hr2, hb2⟩
            obtain rfl := (res_is hr2 I2.out).trans W1.out
            have B2 := Lib.hid ((B1.out.trans (hb2.mono B1.out.size)).alloc (Nat.le_trans B1.out.size hb2.size) (.cells #[.int .i64 vk, .int .i64 vn, .string vs, .slice A3 n3 k3, .slice A4 n4 k4] 35))
            clear hb2 hr2
            go_wp2_with fail
            refine (HT1 _ B2.out).out.mono ?_
            rintro e w3 ⟨rfl, hb3⟩
            have B3 := Lib.hid ((B2.out.trans (hb3.mono B2.out.size)).alloc (Nat.le_trans B2.out.size hb3.size) (.cells #[.string tn, .int .i64 tk, .int .i64 tm] 39))
            clear hb3
            go_wp2_with fail
            refine (HD2 _ B3.out).out.mono ?_
            rintro e w4 ⟨A0', n0', k0', A1', n1', k1', x4, rfl, hr4, hb4⟩
            obtain rfl := (res_is hr4 I3.out).trans W3.out
            have B4 := Lib.hid ((B3.out.trans (hb4.mono B3.out.size)).alloc (Nat.le_trans B3.out.size hb4.size) (.cells #[.slice A0' n0' k0', .slice A1' n1' k1'] 26))
            clear hb4 hr4
            go_wp2_with fail
            refine (HA _ B4.out).out.mono ?_
            rintro e w5 ⟨rfl, hb5⟩
            have B5 := Lib.hid (B4.out.trans (hb5.mono B4.out.size))
            clear hb5
            go_wp2_with fail
            go_ret
            exact ⟨rfl, B5.out⟩
theorem walk (n k : Int) (w : World) (h3 : Laid3 w) (h5 : Laid5 w) : Calls Tryz.prog 8 #[.int .i64 n, .int .i64 k] w fun e w' => e = .returned (.bool true) ∧ Below w.heap.size w w' := by
  by_cases h : n < 1 ∨ 40 < n ∨ k < 0 ∨ n < k
  · exact out n k w h3 h5 h
  · obtain ⟨N, rfl⟩ : ∃ N : Nat, n = (N : Int) := ⟨n.toNat, by omega⟩
    obtain ⟨K, rfl⟩ : ∃ K : Nat, k = (K : Int) := ⟨k.toNat, by omega⟩
    exact within N K w h3 h5 (by omega) (by omega) (by omega)
end Go.Proofs.YtaohniiemhahdaaGreatDoor.LPDeep
