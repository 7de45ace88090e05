/- Plain mathematics: the tokens of a plain value, and that they tell the value. -/
import Derived.Test.YtcfdfgbobnocnaaGreatDoorVMath
import Derived.Lib.ItoaNum
import Derived.Lib.ParseIntB
namespace Go.Proofs.YtcfdfgbobnocnaaGreatDoor
/- Digits. -/
theorem digU_bd {b : UInt8} (h : digU b = true) : 48 ≤ b.toNat ∧ b.toNat ≤ 57 := by
  unfold digU digB at h
  have := of_decide_eq_true h
  omega
theorem digU_of {b : UInt8} (h : 48 ≤ b.toNat ∧ b.toNat ≤ 57) : digU b = true := by
  unfold digU digB
  exact decide_eq_true (by omega)
theorem byte_dig {d : Nat} (h : d < 10) : (UInt8.ofNat (48 + d)).toNat = 48 + d := by
  rw [UInt8.toNat_ofNat']; omega
def digA (a : Nat) (l : List UInt8) : Nat := l.foldl (fun a b => a * 10 + (b.toNat - 48)) a
theorem digA_snoc (a : Nat) (l : List UInt8) (b : UInt8) : digA a (l ++ [b]) = digA a l * 10 + (b.toNat - 48) := by
  unfold digA; rw [List.foldl_append]; rfl
theorem digA_mono : ∀ (l : List UInt8) (a : Nat), a ≤ digA a l
  | [], a => Nat.le_refl _
  | b :: l, a => by
    show a ≤ digA (a * 10 + (b.toNat - 48)) l
    have := digA_mono l (a * 10 + (b.toNat - 48))
    omega
theorem dec_props (u : Nat) : (Lib.decDigits u).all digU = true ∧ digN (Lib.decDigits u) = u ∧ Lib.decDigits u ≠ [] ∧ ((Lib.decDigits u).head? = some 48 → u = 0) := by
  induction u using Nat.strongRecOn with
  | ind u ih =>
    rw [Lib.decDigits]
    split
    · rename_i h
      have hb := byte_dig h
      refine ⟨by rw [List.all_cons, digU_of (by omega), List.all_nil]; rfl, ?_, by simp, ?_⟩
      · show 0 * 10 + ((UInt8.ofNat (48 + u)).toNat - 48) = u
        omega
      · intro e
        have e : UInt8.ofNat (48 + u) = 48 := by simpa using e
        have := congrArg UInt8.toNat e
        rw [hb] at this
        have h48 : (48 : UInt8).toNat = 48 := rfl
        omega
    · rename_i h
      obtain ⟨h1, h2, h3, h4⟩ := ih (u / 10) (by omega)
      have hb := byte_dig (d := u % 10) (by omega)
      refine ⟨?_, ?_, by simp, ?_⟩
      · rw [List.all_append, h1, List.all_cons, digU_of (by omega), List.all_nil]; rfl
      · show digA 0 _ = u
        rw [digA_snoc]
        have : digA 0 (Lib.decDigits (u / 10)) = u / 10 := h2
        rw [this, hb]; omega
      · intro e
        have e' : (Lib.decDigits (u / 10)).head? = some 48 := by
          cases hd : Lib.decDigits (u / 10) with
          | nil => exact absurd hd h3
          | cons x t => rw [hd] at e; simpa using e
        have := h4 e'
        omega
theorem minus_toNat : (45 : UInt8).toNat = 45 := rfl
theorem dig_not_minus {b : UInt8} (h : digU b = true) : b ≠ 45 := by
  intro e; subst e; have := digU_bd h; rw [minus_toNat] at this; omega
theorem int_digits {l : List UInt8} (h : l.all digU = true) : intN l = (digN l : Int) := by
  cases l with
  | nil => rfl
  | cons b t =>
    rw [List.all_cons, Bool.and_eq_true] at h
    show (if b = 45 then -(digN t : Int) else (digN (b :: t) : Int)) = _
    rw [if_neg (dig_not_minus h.1)]
theorem int_minus (l : List UInt8) : intN (45 :: l) = -(digN l : Int) := by
  show (if (45 : UInt8) = 45 then -(digN l : Int) else (digN (45 :: l) : Int)) = _
  rw [if_pos rfl]
theorem int_itoa (n : Int) : intN (Lib.itoa n) = n := by
  unfold Lib.itoa
  split
  · rw [int_minus, (dec_props _).2.1]; omega
  · rw [int_digits (dec_props _).1, (dec_props _).2.1]; omega
theorem itoa_inj {n m : Int} (h : Lib.itoa n = Lib.itoa m) : n = m := by rw [← int_itoa n, ← int_itoa m, h]
/- Numbers of digits alone. -/
theorem run_all {l : List UInt8} (h : l.all digU = true) : runL l = l.length := by
  induction l with
  | nil => rfl
  | cons b t ih =>
    rw [List.all_cons, Bool.and_eq_true] at h
    unfold runL at ih ⊢
    rw [List.takeWhile_cons, if_pos h.1, List.length_cons, List.length_cons, ih h.2]
theorem all_run {l : List UInt8} (h : runL l = l.length) : l.all digU = true := by
  induction l with
  | nil => rfl
  | cons b t ih =>
    unfold runL at ih h
    rw [List.takeWhile_cons] at h
    split at h
    · rename_i hb
      rw [List.all_cons, hb, ih (by simpa using h)]; rfl
    · simp at h
theorem whole_digits {l : List UInt8} (h : l.all digU = true) (h0 : l.head? = some 48 → l.length = 1) : wholeL l = l.length := by
  cases l with
  | nil => rfl
  | cons b t =>
    show (if (b == 48) = true then 1 else runL (b :: t)) = _
    by_cases hb : b = 48
    · subst hb
      have := h0 rfl
      simp [this]
    · rw [if_neg (by simpa using hb), run_all h]
theorem kind_of {l : List UInt8} {m : Nat} (hm : minusL l = m) (h : (l.drop m).all digU = true) (h1 : l.drop m ≠ []) (h0 : (l.drop m).head? = some 48 → (l.drop m).length = 1) : kindL l = 3 := by
  have hw := whole_digits h h0
  have hlen : 0 < (l.drop m).length := List.length_pos_iff.2 h1
  have hml : m + (l.drop m).length = l.length := by rw [List.length_drop] at hlen ⊢; omega
  have hd : l.drop (m + (l.drop m).length) = [] := by rw [hml]; simp
  have hn : numeralL l = (l.length, 3) := by
    unfold numeralL
    rw [hm, hw, if_neg (by omega), hd]
    have hf : fracL [] = 0 := rfl
    have hx : expoL [] = 0 := rfl
    rw [hf, Nat.add_zero, hd, hx, Nat.add_zero, hml]
    simp
  have hN : numberL l = (l.length, 3) := by
    unfold numberL
    rw [hn]
    simp only [List.drop_length, behindB]
    rw [if_neg (by omega), if_neg (by simp)]
  unfold kindL
  rw [hN, if_neg (by simp)]
theorem kind_itoa (n : Int) : kindL (Lib.itoa n) = 3 := by
  unfold Lib.itoa
  split
  · obtain ⟨h1, h2, h3, h4⟩ := dec_props n.natAbs
    refine kind_of (m := 1) (by simp [minusL]) h1 h3 (fun e => ?_)
    have := h4 e
    omega
  · obtain ⟨h1, h2, h3, h4⟩ := dec_props n.toNat
    refine kind_of (m := 0) ?_ h1 h3 (fun e => ?_)
    · cases hd : Lib.decDigits n.toNat with
      | nil => rfl
      | cons b t =>
        rw [hd, List.all_cons, Bool.and_eq_true] at h1
        show (if (b == 45) = true then 1 else 0) = 0
        rw [if_neg (by simpa using dig_not_minus h1.1)]
    · have := h4 e
      rw [List.drop_zero, this, Lib.decDigits]
      simp
/-- What a number of digits alone is. -/
theorem kind_digits {l : List UInt8} (h : kindL l = 3) : ∃ m, minusL l = m ∧ (l.drop m).all digU = true ∧ l.drop m ≠ [] := by
  unfold kindL at h
  split at h
  · omega
  · rename_i hlt
    unfold numberL at h hlt
    split at h
    · simp at h
    · rename_i h0
      rw [if_neg h0] at hlt
      split at h
      · simp at h
      · rename_i hb
        rw [if_neg hb] at hlt
        refine ⟨minusL l, rfl, ?_⟩
        by_cases hw : wholeL (l.drop (minusL l)) = 0
        · exact absurd (by unfold numeralL; rw [if_pos hw]) h0
        · unfold numeralL at h hlt
          rw [if_neg hw] at h hlt
          simp only at h hlt
          split at h
          · rename_i hfx
            obtain ⟨hf1, hf2⟩ := hfx
            rw [hf1, Nat.add_zero] at hf2
            rw [hf1, Nat.add_zero, hf2, Nat.add_zero] at hlt
            have hwl := wholeL_le (l.drop (minusL l))
            rw [List.length_drop] at hwl
            have hwe : wholeL (l.drop (minusL l)) = (l.drop (minusL l)).length := by rw [List.length_drop]; omega
            generalize l.drop (minusL l) = r at hw hwe
            cases r with
            | nil => exact absurd rfl hw
            | cons b t =>
              refine ⟨?_, by simp⟩
              by_cases hb : b = 48
              · subst hb
                have : wholeL ((48 : UInt8) :: t) = 1 := rfl
                rw [this] at hwe
                have ht : t = [] := List.eq_nil_of_length_eq_zero (by rw [List.length_cons] at hwe; omega)
                subst ht; rfl
              · have : wholeL (b :: t) = runL (b :: t) := by
                  show (if (b == 48) = true then 1 else runL (b :: t)) = _
                  rw [if_neg (by simpa using hb)]
                exact all_run (by rw [← this, hwe])
          · simp at h
/-- strconv's reading of such digits. -/
theorem parseM (l : List UInt8) : ∀ (a : Nat), a ≤ 18446744073709551615 → l.all digU = true → Lib.parseUintM 18446744073709551615 a l = if digA a l ≤ 18446744073709551615 then .ok (digA a l) else .range := by
  induction l with
  | nil => intro a ha _; show Lib.NumEnd.ok a = _; rw [show digA a [] = a from rfl, if_pos ha]
  | cons b t ih =>
    intro a ha h
    rw [List.all_cons, Bool.and_eq_true] at h
    have hd := digU_bd h.1
    have hm : digA a (b :: t) = digA (a * 10 + (b.toNat - 48)) t := rfl
    have hmono := digA_mono t (a * 10 + (b.toNat - 48))
    unfold Lib.parseUintM
    rw [if_pos hd, hm]
    split
    · rw [if_neg (by omega)]
    · split
      · rw [if_neg (by omega)]
      · exact ih _ (by omega) h.2
theorem parse_cons (c : UInt8) (r : List UInt8) : Lib.parseIntB 64 (c :: r) = (match Lib.parseUintB 64 (if c.toNat = 43 ∨ c.toNat = 45 then r else c :: r) with
    | Lib.NumEnd.syntax => Lib.NumEnd.syntax
    | .range => .range
    | .ok u => if ¬ c.toNat = 45 ∧ 2 ^ (64 - 1) ≤ u then .range else if c.toNat = 45 ∧ 2 ^ (64 - 1) < u then .range else .ok (if c.toNat = 45 then -(u : Int) else u)) := rfl
theorem parse_mag {r : List UInt8} (hn : r ≠ []) (hd : r.all digU = true) : Lib.parseUintB 64 r = if digA 0 r ≤ 18446744073709551615 then .ok (digA 0 r) else .range := by
  unfold Lib.parseUintB
  rw [if_neg hn]
  exact parseM r 0 (by omega) hd
theorem parse_int {l : List UInt8} (h : kindL l = 3) : Lib.parseIntB 64 l = if fits64 (intN l) = true then .ok (intN l) else .range := by
  obtain ⟨m, hm, hd, hn⟩ := kind_digits h
  cases l with
  | nil => rw [List.drop_nil] at hn; exact absurd rfl hn
  | cons c r =>
    by_cases hc : c = 45
    · subst hc
      have : m = 1 := hm.symm
      subst this
      rw [show (45 :: r).drop 1 = r from rfl] at hd hn
      have hi : intN (45 :: r) = -(digA 0 r : Int) := int_minus r
      rw [hi, parse_cons, if_pos (Or.inr minus_toNat), parse_mag hn hd]
      by_cases h1 : digA 0 r ≤ 18446744073709551615
      · rw [if_pos h1]
        simp only [minus_toNat]
        by_cases h2 : 9223372036854775808 < digA 0 r
        · have hf : fits64 (-(digA 0 r : Int)) = false := by unfold fits64; exact decide_eq_false (by omega)
          rw [hf, if_neg (by simp), if_pos ⟨trivial, by omega⟩, if_neg (by simp)]
        · have hf : fits64 (-(digA 0 r : Int)) = true := by unfold fits64; exact decide_eq_true (by omega)
          rw [hf, if_neg (by simp), if_neg (by omega), if_pos trivial, if_pos rfl]
      · have hf : fits64 (-(digA 0 r : Int)) = false := by unfold fits64; exact decide_eq_false (by omega)
        rw [if_neg h1, hf, if_neg (by simp)]
    · have hm0 : m = 0 := by rw [← hm]; show (if (c == 45) = true then 1 else 0) = 0; rw [if_neg (by simpa using hc)]
      subst hm0
      rw [List.drop_zero] at hd
      have hcd : digU c = true := by rw [List.all_cons, Bool.and_eq_true] at hd; exact hd.1
      have hcb := digU_bd hcd
      rw [int_digits hd, parse_cons, if_neg (by omega), parse_mag (by simp) hd]
      have hD : digN (c :: r) = digA 0 (c :: r) := rfl
      rw [hD]
      have hc45 : ¬ c.toNat = 45 := by omega
      by_cases h1 : digA 0 (c :: r) ≤ 18446744073709551615
      · rw [if_pos h1]
        simp only
        by_cases h2 : 9223372036854775808 ≤ digA 0 (c :: r)
        · have hf : fits64 (digA 0 (c :: r) : Int) = false := by unfold fits64; exact decide_eq_false (by omega)
          rw [hf, if_pos ⟨hc45, by omega⟩, if_neg (by simp)]
        · have hf : fits64 (digA 0 (c :: r) : Int) = true := by unfold fits64; exact decide_eq_true (by omega)
          rw [hf, if_neg (by omega), if_neg (by omega), if_pos rfl, if_neg hc45]
      · have hf : fits64 (digA 0 (c :: r) : Int) = false := by unfold fits64; exact decide_eq_false (by omega)
        rw [if_neg h1, hf, if_neg (by simp)]
end Go.Proofs.YtcfdfgbobnocnaaGreatDoor
namespace Go.Proofs.YtcfdfgbobnocnaaGreatDoor
/- The tokens of a plain value. -/
def nullT : ByteArray := ⟨#[110, 117, 108, 108]⟩
def trueT : ByteArray := ⟨#[116, 114, 117, 101]⟩
def falseT : ByteArray := ⟨#[102, 97, 108, 115, 101]⟩
def openT : ByteArray := ⟨#[91]⟩
def shutT : ByteArray := ⟨#[93]⟩
def openM : ByteArray := ⟨#[123]⟩
def shutM : ByteArray := ⟨#[125]⟩
def colonT : ByteArray := ⟨#[58]⟩
def dollarT : ByteArray := ⟨#[36]⟩
def itoaT (n : Int) : ByteArray := ⟨(Lib.itoa n).toArray⟩
mutual
def vtok : VT → List (Int × ByteArray)
  | .mk k n s l m =>
    if k = 0 then [(2, nullT)] else if k = 1 then [(2, if n = 1 then trueT else falseT)] else if k = 2 then [(3, itoaT n)]
    else if k = 3 then [(kindL s.data.toList, s)] else if k = 4 then [(5, s)] else if k = 5 then [(2, s)]
    else if k = 6 then (1, openT) :: (vtokL l ++ [(1, shutT)]) else if k = 7 then (1, openM) :: (vtokM m ++ [(1, shutM)])
    else if k = 8 then [(1, dollarT), (2, s)] else []
def vtokL : VL → List (Int × ByteArray)
  | .nil => []
  | .cons v t => vtok v ++ vtokL t
def vtokM : VM → List (Int × ByteArray)
  | .nil => []
  | .cons nm v t => (2, nm) :: (1, colonT) :: (vtok v ++ vtokM t)
end
mutual
/-- The numbers are of 64 bits. -/
def RngV : VT → Prop
  | .mk _ n _ l m => (-9223372036854775808 ≤ n ∧ n ≤ 9223372036854775807) ∧ RngL l ∧ RngM m
def RngL : VL → Prop
  | .nil => True
  | .cons v t => RngV v ∧ RngL t
def RngM : VM → Prop
  | .nil => True
  | .cons _ v t => RngV v ∧ RngM t
end
/-- The kind of the value that begins with this token; 9: none. -/
def cls (t : Int × ByteArray) : Int :=
  if t.1 = 1 then (if t.2.data.toList = [91] then 6 else if t.2.data.toList = [123] then 7 else if t.2.data.toList = [36] then 8 else 9)
  else if t.1 = 2 then (if t.2.data.toList = nullL then 0 else if t.2.data.toList = trueL ∨ t.2.data.toList = falseL then 1 else 5)
  else if t.1 = 3 then (if fits64 (intN t.2.data.toList) = true then 2 else 3)
  else if t.1 = 4 then 3 else 4
theorem ba_ext {a b : ByteArray} (h : a.data.toList = b.data.toList) : a = b := ByteArray.ext (Array.toList_inj.1 h)
theorem sound_kind {k n : Int} {s : List UInt8} {ll ml : Nat} (h : soundB k n s ll ml = true) : k = 0 ∨ k = 1 ∨ k = 2 ∨ k = 3 ∨ k = 4 ∨ k = 5 ∨ k = 6 ∨ k = 7 ∨ k = 8 := by
  unfold soundB at h
  repeat' split at h
  all_goals first | contradiction | omega
theorem sound0 {n : Int} {s : List UInt8} {ll ml : Nat} (h : soundB 0 n s ll ml = true) : n = 0 ∧ s = [] ∧ ll = 0 ∧ ml = 0 := by
  simpa [soundB, and_assoc] using h
theorem sound1 {n : Int} {s : List UInt8} {ll ml : Nat} (h : soundB 1 n s ll ml = true) : (n = 0 ∨ n = 1) ∧ s = [] ∧ ll = 0 ∧ ml = 0 := by
  simpa [soundB, and_assoc] using h
theorem sound2 {n : Int} {s : List UInt8} {ll ml : Nat} (h : soundB 2 n s ll ml = true) : s = [] ∧ ll = 0 ∧ ml = 0 := by
  simpa [soundB, and_assoc] using h
theorem sound3 {n : Int} {s : List UInt8} {ll ml : Nat} (h : soundB 3 n s ll ml = true) : n = 0 ∧ numB s = true ∧ ll = 0 ∧ ml = 0 := by
  simpa [soundB, and_assoc] using h
theorem sound4 {n : Int} {s : List UInt8} {ll ml : Nat} (h : soundB 4 n s ll ml = true) : n = 0 ∧ goodB s = true ∧ ll = 0 ∧ ml = 0 := by
  rw [soundB, if_neg (by omega), if_neg (by omega), if_neg (by omega), if_neg (by omega), if_pos rfl] at h
  simpa only [Bool.and_eq_true, beq_iff_eq, and_assoc] using h
theorem sound5 {n : Int} {s : List UInt8} {ll ml : Nat} (h : soundB 5 n s ll ml = true) : n = 0 ∧ enumB s = true ∧ ll = 0 ∧ ml = 0 := by
  simpa [soundB, and_assoc] using h
theorem sound6 {n : Int} {s : List UInt8} {ll ml : Nat} (h : soundB 6 n s ll ml = true) : n = 0 ∧ s = [] ∧ ml = 0 := by
  simpa [soundB, and_assoc] using h
theorem sound7 {n : Int} {s : List UInt8} {ll ml : Nat} (h : soundB 7 n s ll ml = true) : n = 0 ∧ s = [] ∧ ll = 0 := by
  simpa [soundB, and_assoc] using h
theorem sound8 {n : Int} {s : List UInt8} {ll ml : Nat} (h : soundB 8 n s ll ml = true) : n = 0 ∧ nameB s = true ∧ ll = 0 ∧ ml = 0 := by
  rw [soundB, if_neg (by omega), if_neg (by omega), if_neg (by omega), if_neg (by omega), if_neg (by omega), if_neg (by omega), if_neg (by omega), if_neg (by omega), if_pos rfl] at h
  simpa only [Bool.and_eq_true, beq_iff_eq, and_assoc] using h
theorem vtok0 (n : Int) (s : ByteArray) (l : VL) (m : VM) : vtok (.mk 0 n s l m) = [(2, nullT)] := by rw [vtok, if_pos rfl]
theorem vtok1 (n : Int) (s : ByteArray) (l : VL) (m : VM) : vtok (.mk 1 n s l m) = [(2, if n = 1 then trueT else falseT)] := by rw [vtok, if_neg (by omega), if_pos rfl]
theorem vtok2 (n : Int) (s : ByteArray) (l : VL) (m : VM) : vtok (.mk 2 n s l m) = [(3, itoaT n)] := by rw [vtok, if_neg (by omega), if_neg (by omega), if_pos rfl]
theorem vtok3 (n : Int) (s : ByteArray) (l : VL) (m : VM) : vtok (.mk 3 n s l m) = [(kindL s.data.toList, s)] := by rw [vtok, if_neg (by omega), if_neg (by omega), if_neg (by omega), if_pos rfl]
theorem vtok4 (n : Int) (s : ByteArray) (l : VL) (m : VM) : vtok (.mk 4 n s l m) = [(5, s)] := by rw [vtok, if_neg (by omega), if_neg (by omega), if_neg (by omega), if_neg (by omega), if_pos rfl]
theorem vtok5 (n : Int) (s : ByteArray) (l : VL) (m : VM) : vtok (.mk 5 n s l m) = [(2, s)] := by rw [vtok, if_neg (by omega), if_neg (by omega), if_neg (by omega), if_neg (by omega), if_neg (by omega), if_pos rfl]
theorem vtok6 (n : Int) (s : ByteArray) (l : VL) (m : VM) : vtok (.mk 6 n s l m) = (1, openT) :: (vtokL l ++ [(1, shutT)]) := by rw [vtok, if_neg (by omega), if_neg (by omega), if_neg (by omega), if_neg (by omega), if_neg (by omega), if_neg (by omega), if_pos rfl]
theorem vtok7 (n : Int) (s : ByteArray) (l : VL) (m : VM) : vtok (.mk 7 n s l m) = (1, openM) :: (vtokM m ++ [(1, shutM)]) := by rw [vtok, if_neg (by omega), if_neg (by omega), if_neg (by omega), if_neg (by omega), if_neg (by omega), if_neg (by omega), if_neg (by omega), if_pos rfl]
theorem vtok8 (n : Int) (s : ByteArray) (l : VL) (m : VM) : vtok (.mk 8 n s l m) = [(1, dollarT), (2, s)] := by rw [vtok, if_neg (by omega), if_neg (by omega), if_neg (by omega), if_neg (by omega), if_neg (by omega), if_neg (by omega), if_neg (by omega), if_neg (by omega), if_pos rfl]
theorem num_cases {l : List UInt8} (h : numB l = true) : kindL l = 4 ∨ kindL l = 3 ∧ fits64 (intN l) = false := by
  simpa [numB] using h
theorem enum_cases {l : List UInt8} (h : enumB l = true) : nameB l = true ∧ l ≠ nullL ∧ l ≠ trueL ∧ l ≠ falseL := by
  simpa [enumB, and_assoc] using h
theorem fits_of {n : Int} (h : -9223372036854775808 ≤ n ∧ n ≤ 9223372036854775807) : fits64 n = true := decide_eq_true h
/-- What a value's first token tells. -/
theorem head_cls (p : List UInt8 → Bool) (k n : Int) (s : ByteArray) (l : VL) (m : VM) (hf : fitV p (.mk k n s l m) = true) (hr : RngV (.mk k n s l m)) : (0 ≤ k ∧ k ≤ 8) ∧ ∃ t r, vtok (.mk k n s l m) = t :: r ∧ cls t = k := by
  rw [fitV, Bool.and_eq_true, Bool.and_eq_true] at hf
  have hs := hf.1.1
  unfold RngV at hr
  rcases sound_kind hs with rfl | rfl | rfl | rfl | rfl | rfl | rfl | rfl | rfl
  · exact ⟨by omega, _, _, vtok0 _ _ _ _, rfl⟩
  · refine ⟨by omega, _, _, vtok1 _ _ _ _, ?_⟩
    rcases (sound1 hs).1 with h | h
    · rw [h]; rfl
    · rw [h]; rfl
  · refine ⟨by omega, _, _, vtok2 _ _ _ _, ?_⟩
    show (if fits64 (intN (itoaT n).data.toList) = true then (2 : Int) else 3) = 2
    have : (itoaT n).data.toList = Lib.itoa n := by simp [itoaT]
    rw [this, int_itoa, if_pos (fits_of hr.1)]
  · refine ⟨by omega, _, _, vtok3 _ _ _ _, ?_⟩
    rcases num_cases (sound3 hs).2.1 with h | ⟨h, h'⟩
    · rw [h]; rfl
    · rw [h]
      show (if fits64 (intN s.data.toList) = true then (2 : Int) else 3) = 3
      rw [h', if_neg (by simp)]
  · exact ⟨by omega, _, _, vtok4 _ _ _ _, rfl⟩
  · refine ⟨by omega, _, _, vtok5 _ _ _ _, ?_⟩
    obtain ⟨_, h1, h2, h3⟩ := enum_cases (sound5 hs).2.1
    show (if s.data.toList = nullL then (0 : Int) else if s.data.toList = trueL ∨ s.data.toList = falseL then 1 else 5) = 5
    rw [if_neg h1, if_neg (by rintro (h | h) <;> contradiction)]
  · exact ⟨by omega, _, _, vtok6 _ _ _ _, rfl⟩
  · exact ⟨by omega, _, _, vtok7 _ _ _ _, rfl⟩
  · exact ⟨by omega, _, _, vtok8 _ _ _ _, rfl⟩
theorem empty_of {s : ByteArray} (h : s.data.toList = []) : s = ⟨#[]⟩ := ba_ext (by rw [h])
mutual
theorem tok_inj (p : List UInt8 → Bool) : ∀ (u v : VT) (x y : List (Int × ByteArray)), fitV p u = true → RngV u → fitV p v = true → RngV v → vtok u ++ x = vtok v ++ y → u = v ∧ x = y
  | .mk k n s l m, .mk k' n' s' l' m', x, y, hu, ru, hv, rv, e => by
    obtain ⟨hk, t, r, ht, hc⟩ := head_cls p k n s l m hu ru
    obtain ⟨hk', t', r', ht', hc'⟩ := head_cls p k' n' s' l' m' hv rv
    have hkk : k = k' := by
      rw [ht, ht', List.cons_append, List.cons_append] at e
      have := (List.cons.inj e).1
      rw [← hc, ← hc', this]
    subst hkk
    clear ht ht' hc hc' hk hk'
    rw [fitV, Bool.and_eq_true, Bool.and_eq_true] at hu hv
    obtain ⟨⟨hs, hl⟩, hm⟩ := hu
    obtain ⟨⟨hs', hl'⟩, hm'⟩ := hv
    unfold RngV at ru rv
    rcases sound_kind hs with rfl | rfl | rfl | rfl | rfl | rfl | rfl | rfl | rfl
    · obtain ⟨rfl, h2, h3, h4⟩ := sound0 hs
      obtain ⟨rfl, g2, g3, g4⟩ := sound0 hs'
      rw [vtok0, vtok0] at e
      rw [VL.nil_of_len h3, VL.nil_of_len g3, VM.nil_of_len h4, VM.nil_of_len g4, empty_of h2, empty_of g2]
      exact ⟨rfl, by simpa using e⟩
    · obtain ⟨h1, h2, h3, h4⟩ := sound1 hs
      obtain ⟨g1, g2, g3, g4⟩ := sound1 hs'
      rw [vtok1, vtok1] at e
      have e := List.cons.inj e
      have hn : n = n' := by
        have he := congrArg (fun z : Int × ByteArray => z.2.data.toList) e.1
        rcases h1 with rfl | rfl <;> rcases g1 with rfl | rfl
        · rfl
        · exact absurd he (by decide)
        · exact absurd he (by decide)
        · rfl
      rw [VL.nil_of_len h3, VL.nil_of_len g3, VM.nil_of_len h4, VM.nil_of_len g4, empty_of h2, empty_of g2, hn]
      exact ⟨rfl, by simpa using e.2⟩
    · obtain ⟨h2, h3, h4⟩ := sound2 hs
      obtain ⟨g2, g3, g4⟩ := sound2 hs'
      rw [vtok2, vtok2] at e
      have e := List.cons.inj e
      have hn : n = n' := by
        have he := congrArg (fun z : Int × ByteArray => z.2.data.toList) e.1
        have he : Lib.itoa n = Lib.itoa n' := by simpa [itoaT] using he
        exact itoa_inj he
      rw [VL.nil_of_len h3, VL.nil_of_len g3, VM.nil_of_len h4, VM.nil_of_len g4, empty_of h2, empty_of g2, hn]
      exact ⟨rfl, by simpa using e.2⟩
    · obtain ⟨rfl, h2, h3, h4⟩ := sound3 hs
      obtain ⟨rfl, g2, g3, g4⟩ := sound3 hs'
      rw [vtok3, vtok3] at e
      have e := List.cons.inj e
      have hss : s = s' := congrArg (fun z : Int × ByteArray => z.2) e.1
      rw [VL.nil_of_len h3, VL.nil_of_len g3, VM.nil_of_len h4, VM.nil_of_len g4, hss]
      exact ⟨rfl, by simpa using e.2⟩
    · obtain ⟨rfl, h2, h3, h4⟩ := sound4 hs
      obtain ⟨rfl, g2, g3, g4⟩ := sound4 hs'
      rw [vtok4, vtok4] at e
      have e := List.cons.inj e
      have hss : s = s' := congrArg (fun z : Int × ByteArray => z.2) e.1
      rw [VL.nil_of_len h3, VL.nil_of_len g3, VM.nil_of_len h4, VM.nil_of_len g4, hss]
      exact ⟨rfl, by simpa using e.2⟩
    · obtain ⟨rfl, h2, h3, h4⟩ := sound5 hs
      obtain ⟨rfl, g2, g3, g4⟩ := sound5 hs'
      rw [vtok5, vtok5] at e
      have e := List.cons.inj e
      have hss : s = s' := congrArg (fun z : Int × ByteArray => z.2) e.1
      rw [VL.nil_of_len h3, VL.nil_of_len g3, VM.nil_of_len h4, VM.nil_of_len g4, hss]
      exact ⟨rfl, by simpa using e.2⟩
    · obtain ⟨rfl, h2, h4⟩ := sound6 hs
      obtain ⟨rfl, g2, g4⟩ := sound6 hs'
      rw [vtok6, vtok6, List.cons_append, List.cons_append] at e
      have e := (List.cons.inj e).2
      simp only [List.append_assoc, List.cons_append, List.nil_append] at e
      obtain ⟨hll, hxy⟩ := tokL_inj p l l' x y hl ru.2.1 hl' rv.2.1 e
      rw [VM.nil_of_len h4, VM.nil_of_len g4, empty_of h2, empty_of g2, hll]
      exact ⟨rfl, hxy⟩
    · obtain ⟨rfl, h2, h3⟩ := sound7 hs
      obtain ⟨rfl, g2, g3⟩ := sound7 hs'
      rw [vtok7, vtok7, List.cons_append, List.cons_append] at e
      have e := (List.cons.inj e).2
      simp only [List.append_assoc, List.cons_append, List.nil_append] at e
      obtain ⟨hll, hxy⟩ := tokM_inj p m m' x y hm ru.2.2 hm' rv.2.2 e
      rw [VL.nil_of_len h3, VL.nil_of_len g3, empty_of h2, empty_of g2, hll]
      exact ⟨rfl, hxy⟩
    · obtain ⟨rfl, h2, h3, h4⟩ := sound8 hs
      obtain ⟨rfl, g2, g3, g4⟩ := sound8 hs'
      rw [vtok8, vtok8] at e
      have e := List.cons.inj (List.cons.inj e).2
      have hss : s = s' := congrArg (fun z : Int × ByteArray => z.2) e.1
      rw [VL.nil_of_len h3, VL.nil_of_len g3, VM.nil_of_len h4, VM.nil_of_len g4, hss]
      exact ⟨rfl, by simpa using e.2⟩
theorem tokL_inj (p : List UInt8 → Bool) : ∀ (l l' : VL) (x y : List (Int × ByteArray)), fitL p l = true → RngL l → fitL p l' = true → RngL l' → vtokL l ++ (1, shutT) :: x = vtokL l' ++ (1, shutT) :: y → l = l' ∧ x = y
  | .nil, .nil, x, y, _, _, _, _, e => ⟨rfl, (List.cons.inj e).2⟩
  | .nil, .cons (.mk k n s l m) t, x, y, _, _, hv, rv, e => by
    rw [fitL, Bool.and_eq_true] at hv
    unfold RngL at rv
    obtain ⟨hk, t1, r, ht, hc⟩ := head_cls p k n s l m hv.1 rv.1
    rw [vtokL, vtokL, ht] at e
    have := (List.cons.inj e).1
    rw [← this] at hc
    have h9 : cls (1, shutT) = 9 := by decide
    omega
  | .cons (.mk k n s l m) t, .nil, x, y, hu, ru, _, _, e => by
    rw [fitL, Bool.and_eq_true] at hu
    unfold RngL at ru
    obtain ⟨hk, t1, r, ht, hc⟩ := head_cls p k n s l m hu.1 ru.1
    rw [vtokL, vtokL, ht] at e
    have := (List.cons.inj e).1
    rw [this] at hc
    have h9 : cls (1, shutT) = 9 := by decide
    omega
  | .cons u t, .cons u' t', x, y, hu, ru, hv, rv, e => by
    rw [fitL, Bool.and_eq_true] at hu hv
    unfold RngL at ru rv
    rw [vtokL, vtokL, List.append_assoc, List.append_assoc] at e
    obtain ⟨h1, h2⟩ := tok_inj p u u' _ _ hu.1 ru.1 hv.1 rv.1 e
    obtain ⟨h3, h4⟩ := tokL_inj p t t' x y hu.2 ru.2 hv.2 rv.2 h2
    exact ⟨by rw [h1, h3], h4⟩
theorem tokM_inj (p : List UInt8 → Bool) : ∀ (l l' : VM) (x y : List (Int × ByteArray)), fitM p l = true → RngM l → fitM p l' = true → RngM l' → vtokM l ++ (1, shutM) :: x = vtokM l' ++ (1, shutM) :: y → l = l' ∧ x = y
  | .nil, .nil, x, y, _, _, _, _, e => ⟨rfl, (List.cons.inj e).2⟩
  | .nil, .cons nm v t, x, y, _, _, _, _, e => by
    rw [vtokM, vtokM] at e
    exact absurd (congrArg (fun z : Int × ByteArray => z.1) (List.cons.inj e).1) (by show ¬ ((1 : Int) = 2); omega)
  | .cons nm v t, .nil, x, y, _, _, _, _, e => by
    rw [vtokM, vtokM] at e
    exact absurd (congrArg (fun z : Int × ByteArray => z.1) (List.cons.inj e).1) (by show ¬ ((2 : Int) = 1); omega)
  | .cons nm u t, .cons nm' u' t', x, y, hu, ru, hv, rv, e => by
    rw [fitM, Bool.and_eq_true, Bool.and_eq_true] at hu hv
    unfold RngM at ru rv
    rw [vtokM, vtokM, List.cons_append, List.cons_append, List.cons_append, List.cons_append] at e
    have e1 := List.cons.inj e
    have hn : nm = nm' := congrArg (fun z : Int × ByteArray => z.2) e1.1
    have e2 := (List.cons.inj e1.2).2
    rw [List.append_assoc, List.append_assoc] at e2
    obtain ⟨h1, h2⟩ := tok_inj p u u' _ _ hu.1.2 ru.1 hv.1.2 rv.1 e2
    obtain ⟨h3, h4⟩ := tokM_inj p t t' x y hu.2 ru.2 hv.2 rv.2 h2
    exact ⟨by rw [hn, h1, h3], h4⟩
end
theorem tok_same (p : List UInt8 → Bool) {u v : VT} (hu : fitV p u = true) (ru : RngV u) (hv : fitV p v = true) (rv : RngV v) : vtok u = vtok v ↔ u = v :=
  ⟨fun e => (tok_inj p u v [] [] hu ru hv rv (by rw [e])).1, fun e => by rw [e]⟩
end Go.Proofs.YtcfdfgbobnocnaaGreatDoor
