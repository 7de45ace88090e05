/- Plain mathematics of numbers as text: what digits spell, which fit into 64 bits, how strconv reads them. -/
import Derived.Test.YtcfdfgbobnocnaaGreatDoorVMath
import Derived.Lib.ItoaNum
import Derived.Lib.ParseIntB
namespace Go.Proofs.YtcfdfgbobnocnaaGreatDoor
/- Digits. -/
theorem digU_bd {b : UInt8} (h : digU b = true) : 48 ≤ b.toNat ∧ b.toNat ≤ 57 := by
  unfold digU digB at h
  have := of_decide_eq_true h
  omega
theorem digU_of {b : UInt8} (h : 48 ≤ b.toNat ∧ b.toNat ≤ 57) : digU b = true := by
  unfold digU digB
  exact decide_eq_true (by omega)
theorem byte_dig {d : Nat} (h : d < 10) : (UInt8.ofNat (48 + d)).toNat = 48 + d := by
  rw [UInt8.toNat_ofNat']; omega
def digA (a : Nat) (l : List UInt8) : Nat := l.foldl (fun a b => a * 10 + (b.toNat - 48)) a
theorem digA_snoc (a : Nat) (l : List UInt8) (b : UInt8) : digA a (l ++ [b]) = digA a l * 10 + (b.toNat - 48) := by
  unfold digA; rw [List.foldl_append]; rfl
theorem digA_mono : ∀ (l : List UInt8) (a : Nat), a ≤ digA a l
  | [], a => Nat.le_refl _
  | b :: l, a => by
    show a ≤ digA (a * 10 + (b.toNat - 48)) l
    have := digA_mono l (a * 10 + (b.toNat - 48))
    omega
theorem dec_props (u : Nat) : (Lib.decDigits u).all digU = true ∧ digN (Lib.decDigits u) = u ∧ Lib.decDigits u ≠ [] ∧ ((Lib.decDigits u).head? = some 48 → u = 0) := by
  induction u using Nat.strongRecOn with
  | ind u ih =>
    rw [Lib.decDigits]
    split
    · rename_i h
      have hb := byte_dig h
      refine ⟨by rw [List.all_cons, digU_of (by omega), List.all_nil]; rfl, ?_, by simp, ?_⟩
      · show 0 * 10 + ((UInt8.ofNat (48 + u)).toNat - 48) = u
        omega
      · intro e
        have e : UInt8.ofNat (48 + u) = 48 := by simpa using e
        have := congrArg UInt8.toNat e
        rw [hb] at this
        have h48 : (48 : UInt8).toNat = 48 := rfl
        omega
    · rename_i h
      obtain ⟨h1, h2, h3, h4⟩ := ih (u / 10) (by omega)
      have hb := byte_dig (d := u % 10) (by omega)
      refine ⟨?_, ?_, by simp, ?_⟩
      · rw [List.all_append, h1, List.all_cons, digU_of (by omega), List.all_nil]; rfl
      · show digA 0 _ = u
        rw [digA_snoc]
        have : digA 0 (Lib.decDigits (u / 10)) = u / 10 := h2
        rw [this, hb]; omega
      · intro e
        have e' : (Lib.decDigits (u / 10)).head? = some 48 := by
          cases hd : Lib.decDigits (u / 10) with
          | nil => exact absurd hd h3
          | cons x t => rw [hd] at e; simpa using e
        have := h4 e'
        omega
theorem minus_toNat : (45 : UInt8).toNat = 45 := rfl
theorem dig_not_minus {b : UInt8} (h : digU b = true) : b ≠ 45 := by
  intro e; subst e; have := digU_bd h; rw [minus_toNat] at this; omega
theorem int_digits {l : List UInt8} (h : l.all digU = true) : intN l = (digN l : Int) := by
  cases l with
  | nil => rfl
  | cons b t =>
    rw [List.all_cons, Bool.and_eq_true] at h
    show (if b = 45 then -(digN t : Int) else (digN (b :: t) : Int)) = _
    rw [if_neg (dig_not_minus h.1)]
theorem int_minus (l : List UInt8) : intN (45 :: l) = -(digN l : Int) := by
  show (if (45 : UInt8) = 45 then -(digN l : Int) else (digN (45 :: l) : Int)) = _
  rw [if_pos rfl]
theorem int_itoa (n : Int) : intN (Lib.itoa n) = n := by
  unfold Lib.itoa
  split
  · rw [int_minus, (dec_props _).2.1]; omega
  · rw [int_digits (dec_props _).1, (dec_props _).2.1]; omega
theorem itoa_inj {n m : Int} (h : Lib.itoa n = Lib.itoa m) : n = m := by rw [← int_itoa n, ← int_itoa m, h]
/- Numbers of digits alone. -/
theorem run_all {l : List UInt8} (h : l.all digU = true) : runL l = l.length := by
  induction l with
  | nil => rfl
  | cons b t ih =>
    rw [List.all_cons, Bool.and_eq_true] at h
    unfold runL at ih ⊢
    rw [List.takeWhile_cons, if_pos h.1, List.length_cons, List.length_cons, ih h.2]
theorem all_run {l : List UInt8} (h : runL l = l.length) : l.all digU = true := by
  induction l with
  | nil => rfl
  | cons b t ih =>
    unfold runL at ih h
    rw [List.takeWhile_cons] at h
    split at h
    · rename_i hb
      rw [List.all_cons, hb, ih (by simpa using h)]; rfl
    · simp at h
theorem whole_digits {l : List UInt8} (h : l.all digU = true) (h0 : l.head? = some 48 → l.length = 1) : wholeL l = l.length := by
  cases l with
  | nil => rfl
  | cons b t =>
    show (if (b == 48) = true then 1 else runL (b :: t)) = _
    by_cases hb : b = 48
    · subst hb
      have := h0 rfl
      simp [this]
    · rw [if_neg (by simpa using hb), run_all h]
theorem kind_of {l : List UInt8} {m : Nat} (hm : minusL l = m) (h : (l.drop m).all digU = true) (h1 : l.drop m ≠ []) (h0 : (l.drop m).head? = some 48 → (l.drop m).length = 1) : kindL l = 3 := by
  have hw := whole_digits h h0
  have hlen : 0 < (l.drop m).length := List.length_pos_iff.2 h1
  have hml : m + (l.drop m).length = l.length := by rw [List.length_drop] at hlen ⊢; omega
  have hd : l.drop (m + (l.drop m).length) = [] := by rw [hml]; simp
  have hn : numeralL l = (l.length, 3) := by
    unfold numeralL
    rw [hm, hw, if_neg (by omega), hd]
    have hf : fracL [] = 0 := rfl
    have hx : expoL [] = 0 := rfl
    rw [hf, Nat.add_zero, hd, hx, Nat.add_zero, hml]
    simp
  have hN : numberL l = (l.length, 3) := by
    unfold numberL
    rw [hn]
    simp only [List.drop_length, behindB]
    rw [if_neg (by omega), if_neg (by simp)]
  unfold kindL
  rw [hN, if_neg (by simp)]
theorem kind_itoa (n : Int) : kindL (Lib.itoa n) = 3 := by
  unfold Lib.itoa
  split
  · obtain ⟨h1, h2, h3, h4⟩ := dec_props n.natAbs
    refine kind_of (m := 1) (by simp [minusL]) h1 h3 (fun e => ?_)
    have := h4 e
    omega
  · obtain ⟨h1, h2, h3, h4⟩ := dec_props n.toNat
    refine kind_of (m := 0) ?_ h1 h3 (fun e => ?_)
    · cases hd : Lib.decDigits n.toNat with
      | nil => rfl
      | cons b t =>
        rw [hd, List.all_cons, Bool.and_eq_true] at h1
        show (if (b == 45) = true then 1 else 0) = 0
        rw [if_neg (by simpa using dig_not_minus h1.1)]
    · have := h4 e
      rw [List.drop_zero, this, Lib.decDigits]
      simp
/-- What a number of digits alone is. -/
theorem kind_digits {l : List UInt8} (h : kindL l = 3) : ∃ m, minusL l = m ∧ (l.drop m).all digU = true ∧ l.drop m ≠ [] := by
  unfold kindL at h
  split at h
  · omega
  · rename_i hlt
    unfold numberL at h hlt
    split at h
    · simp at h
    · rename_i h0
      rw [if_neg h0] at hlt
      split at h
      · simp at h
      · rename_i hb
        rw [if_neg hb] at hlt
        refine ⟨minusL l, rfl, ?_⟩
        by_cases hw : wholeL (l.drop (minusL l)) = 0
        · exact absurd (by unfold numeralL; rw [if_pos hw]) h0
        · unfold numeralL at h hlt
          rw [if_neg hw] at h hlt
          simp only at h hlt
          split at h
          · rename_i hfx
            obtain ⟨hf1, hf2⟩ := hfx
            rw [hf1, Nat.add_zero] at hf2
            rw [hf1, Nat.add_zero, hf2, Nat.add_zero] at hlt
            have hwl := wholeL_le (l.drop (minusL l))
            rw [List.length_drop] at hwl
            have hwe : wholeL (l.drop (minusL l)) = (l.drop (minusL l)).length := by rw [List.length_drop]; omega
            generalize l.drop (minusL l) = r at hw hwe
            cases r with
            | nil => exact absurd rfl hw
            | cons b t =>
              refine ⟨?_, by simp⟩
              by_cases hb : b = 48
              · subst hb
                have : wholeL ((48 : UInt8) :: t) = 1 := rfl
                rw [this] at hwe
                have ht : t = [] := List.eq_nil_of_length_eq_zero (by rw [List.length_cons] at hwe; omega)
                subst ht; rfl
              · have : wholeL (b :: t) = runL (b :: t) := by
                  show (if (b == 48) = true then 1 else runL (b :: t)) = _
                  rw [if_neg (by simpa using hb)]
                exact all_run (by rw [← this, hwe])
          · simp at h
/-- strconv's reading of such digits. -/
theorem parseM (l : List UInt8) : ∀ (a : Nat), a ≤ 18446744073709551615 → l.all digU = true → Lib.parseUintM 18446744073709551615 a l = if digA a l ≤ 18446744073709551615 then .ok (digA a l) else .range := by
  induction l with
  | nil => intro a ha _; show Lib.NumEnd.ok a = _; rw [show digA a [] = a from rfl, if_pos ha]
  | cons b t ih =>
    intro a ha h
    rw [List.all_cons, Bool.and_eq_true] at h
    have hd := digU_bd h.1
    have hm : digA a (b :: t) = digA (a * 10 + (b.toNat - 48)) t := rfl
    have hmono := digA_mono t (a * 10 + (b.toNat - 48))
    unfold Lib.parseUintM
    rw [if_pos hd, hm]
    split
    · rw [if_neg (by omega)]
    · split
      · rw [if_neg (by omega)]
      · exact ih _ (by omega) h.2
theorem parse_cons (c : UInt8) (r : List UInt8) : Lib.parseIntB 64 (c :: r) = (match Lib.parseUintB 64 (if c.toNat = 43 ∨ c.toNat = 45 then r else c :: r) with
    | Lib.NumEnd.syntax => Lib.NumEnd.syntax
    | .range => .range
    | .ok u => if ¬ c.toNat = 45 ∧ 2 ^ (64 - 1) ≤ u then .range else if c.toNat = 45 ∧ 2 ^ (64 - 1) < u then .range else .ok (if c.toNat = 45 then -(u : Int) else u)) := rfl
theorem parse_mag {r : List UInt8} (hn : r ≠ []) (hd : r.all digU = true) : Lib.parseUintB 64 r = if digA 0 r ≤ 18446744073709551615 then .ok (digA 0 r) else .range := by
  unfold Lib.parseUintB
  rw [if_neg hn]
  exact parseM r 0 (by omega) hd
theorem parse_int {l : List UInt8} (h : kindL l = 3) : Lib.parseIntB 64 l = if fits64 (intN l) = true then .ok (intN l) else .range := by
  obtain ⟨m, hm, hd, hn⟩ := kind_digits h
  cases l with
  | nil => rw [List.drop_nil] at hn; exact absurd rfl hn
  | cons c r =>
    by_cases hc : c = 45
    · subst hc
      have : m = 1 := hm.symm
      subst this
      rw [show (45 :: r).drop 1 = r from rfl] at hd hn
      have hi : intN (45 :: r) = -(digA 0 r : Int) := int_minus r
      rw [hi, parse_cons, if_pos (Or.inr minus_toNat), parse_mag hn hd]
      by_cases h1 : digA 0 r ≤ 18446744073709551615
      · rw [if_pos h1]
        simp only [minus_toNat]
        by_cases h2 : 9223372036854775808 < digA 0 r
        · have hf : fits64 (-(digA 0 r : Int)) = false := by unfold fits64; exact decide_eq_false (by omega)
          rw [hf, if_neg (by simp), if_pos ⟨trivial, by omega⟩, if_neg (by simp)]
        · have hf : fits64 (-(digA 0 r : Int)) = true := by unfold fits64; exact decide_eq_true (by omega)
          rw [hf, if_neg (by simp), if_neg (by omega), if_pos trivial, if_pos rfl]
      · have hf : fits64 (-(digA 0 r : Int)) = false := by unfold fits64; exact decide_eq_false (by omega)
        rw [if_neg h1, hf, if_neg (by simp)]
    · have hm0 : m = 0 := by rw [← hm]; show (if (c == 45) = true then 1 else 0) = 0; rw [if_neg (by simpa using hc)]
      subst hm0
      rw [List.drop_zero] at hd
      have hcd : digU c = true := by rw [List.all_cons, Bool.and_eq_true] at hd; exact hd.1
      have hcb := digU_bd hcd
      rw [int_digits hd, parse_cons, if_neg (by omega), parse_mag (by simp) hd]
      have hD : digN (c :: r) = digA 0 (c :: r) := rfl
      rw [hD]
      have hc45 : ¬ c.toNat = 45 := by omega
      by_cases h1 : digA 0 (c :: r) ≤ 18446744073709551615
      · rw [if_pos h1]
        simp only
        by_cases h2 : 9223372036854775808 ≤ digA 0 (c :: r)
        · have hf : fits64 (digA 0 (c :: r) : Int) = false := by unfold fits64; exact decide_eq_false (by omega)
          rw [hf, if_pos ⟨hc45, by omega⟩, if_neg (by simp)]
        · have hf : fits64 (digA 0 (c :: r) : Int) = true := by unfold fits64; exact decide_eq_true (by omega)
          rw [hf, if_neg (by omega), if_neg (by omega), if_pos rfl, if_neg hc45]
      · have hf : fits64 (digA 0 (c :: r) : Int) = false := by unfold fits64; exact decide_eq_false (by omega)
        rw [if_neg h1, hf, if_neg (by simp)]
end Go.Proofs.YtcfdfgbobnocnaaGreatDoor
